package parse

import (
	"deadfall/api"
	"deadfall/lex"
)

// program reads all that there is.
func (p *parser) program() api.Node {
	n := api.Node{Kind: api.List}
	p.lines()
	if p.begins() {
		n = p.list()
	}
	if p.token.Kind != lex.End {
		p.wrong(api.ErrForm)
	}
	return n
}

// list reads items, one at least, as long as there is what parts them.
func (p *parser) list() api.Node {
	n := api.Node{Kind: api.List}
	for {
		n.Kids = append(n.Kids, p.item())
		n.Beside = append(n.Beside, p.sees("&"))
		if !p.skip(";", "&", line) {
			return n
		}
		p.lines()
		if !p.begins() {
			return n
		}
	}
}

// body reads a list with line feeds ahead of it.
func (p *parser) body() api.Node {
	p.lines()
	return p.list()
}

// behind reads a word, and the body behind it.
func (p *parser) behind(s string) api.Node {
	p.take(s)
	return p.body()
}

func (p *parser) item() api.Node {
	n := p.unit()
	for p.sees("&&", "||") {
		kind := api.And
		if p.sees("||") {
			kind = api.Or
		}
		p.next()
		p.lines()
		n = api.Node{Kind: kind, Kids: []api.Node{n, p.unit()}}
	}
	return n
}

func (p *parser) unit() api.Node {
	if p.skip("!") {
		return api.Node{Kind: api.Not, Kids: []api.Node{p.command()}}
	}
	return p.command()
}

func (p *parser) command() api.Node {
	if p.simply() {
		return p.simple()
	}
	return p.compound()
}

// simple reads a simple command, or a function, which begins like one.
func (p *parser) simple() api.Node {
	name, named := p.text, p.named()
	n := api.Node{Kind: api.Simple, Assigns: p.assigns(), Words: p.words()}
	if named && len(n.Words) == 1 && p.skip("(") {
		p.take(")")
		p.lines()
		return api.Node{Kind: api.Func, Name: name, Kids: []api.Node{p.compound()}}
	}
	return n
}

func (p *parser) compound() (n api.Node) {
	if !p.opens() {
		p.wrong(api.ErrForm)
	}
	first := p.text
	p.enter()
	switch first {
	case "{":
		n = p.enclosed(api.Group, "}")
	case "(":
		n = p.enclosed(api.Subshell, ")")
	case "if":
		n = p.branch()
		p.take("fi")
	case "while":
		n = p.loop(api.While)
	case "until":
		n = p.loop(api.Until)
	case "for":
		n = p.each()
	case "case":
		n = p.choice()
	}
	p.leave()
	return n
}

func (p *parser) enclosed(kind int, end string) api.Node {
	n := api.Node{Kind: kind, Kids: []api.Node{p.body()}}
	p.take(end)
	return n
}

// branch reads what is behind an `if` or an `elif`, up to the `fi`, which all of them have in common.
func (p *parser) branch() api.Node {
	n := api.Node{Kind: api.If, Kids: []api.Node{p.body(), p.behind("then")}}
	switch {
	case p.sees("else"):
		n.Kids = append(n.Kids, p.behind("else"))
	case p.sees("elif"):
		p.enter()
		n.Kids = append(n.Kids, api.Node{Kind: api.List, Kids: []api.Node{p.branch()}, Beside: []bool{false}})
		p.leave()
	}
	return n
}

func (p *parser) loop(kind int) api.Node {
	n := api.Node{Kind: kind, Kids: []api.Node{p.body(), p.behind("do")}}
	p.take("done")
	return n
}

// each reads what is behind a `for`.
func (p *parser) each() api.Node {
	n := api.Node{Kind: api.For, Name: p.name()}
	if p.skip(";") {
		p.lines()
	} else {
		p.lines()
		n.Given = p.skip("in")
		if n.Given {
			n.Words = p.words()
			p.take(";", line)
			p.lines()
		}
	}
	n.Kids = []api.Node{p.behind("do")}
	p.take("done")
	return n
}

// choice reads what is behind a `case`.
func (p *parser) choice() api.Node {
	n := api.Node{Kind: api.Choose, Words: []api.Word{p.word()}}
	p.lines()
	p.take("in")
	p.lines()
	for !p.skip("esac") {
		n.Cases = append(n.Cases, p.entry())
	}
	return n
}

// entry reads one of a case's entries. One that has no `;;` has an `esac` behind it, so that it is the last one.
func (p *parser) entry() api.Case {
	p.skip("(")
	c := api.Case{Patterns: []api.Word{p.word()}}
	for p.skip("|") {
		c.Patterns = append(c.Patterns, p.word())
	}
	p.take(")")
	p.lines()
	if p.begins() {
		c.Body = []api.Node{p.list()}
	}
	if !p.sees("esac") {
		p.take(";;")
		p.lines()
	}
	return c
}
