package parse

import (
	"slices"

	"deadfall/api"
	"deadfall/class"
	"deadfall/lex"
	"deadfall/word"
)

// line is the text that stands for a line feed's token.
const line = "\n"

// A parser has come to a token of a text. It goes on over a token only where a program may have it, so that the one it breaks off at is the first that none may have.
type parser struct {
	s     string
	token lex.Token
	text  string // what sees holds against signs and words; empty, if the token is none that is asked for so
	to    int    // the place behind the token
	depth int    // how many compounds are around it
}

// A fault is what is wrong, and where; the reading of a program is broken off with it.
type fault struct {
	at  int
	err api.Errno
}

// wrong breaks off at the token that comes next.
func (p *parser) wrong(err api.Errno) {
	panic(fault{p.token.At, err})
}

// next goes on by one token.
func (p *parser) next() {
	p.token, p.to = lex.Next(p.s, p.to)
	p.text = text(p.token)
	if p.token.Kind == lex.Bad {
		p.wrong(p.token.Err)
	}
}

// text is what a sign, a line feed, or a word of Plain text is written by. No word is written as a sign or a line feed is. Of others it is empty.
func text(t lex.Token) string {
	switch t.Kind {
	case lex.Sign:
		return t.Text
	case lex.Line:
		return line
	}
	s, _ := word.Plain(t.Word)
	return s
}

// sees: is the token that comes next one of these signs and words?
func (p *parser) sees(l ...string) bool {
	return slices.Contains(l, p.text)
}

// skip goes on over one of these signs and words, if it comes next.
func (p *parser) skip(l ...string) bool {
	if !p.sees(l...) {
		return false
	}
	p.next()
	return true
}

// take goes on over one of these signs and words, which has to come next.
func (p *parser) take(l ...string) {
	if !p.skip(l...) {
		p.wrong(api.ErrForm)
	}
}

// lines goes on over as many line feeds as there are.
func (p *parser) lines() {
	for p.skip(line) {
	}
}

// word reads a word, a reserved one, too.
func (p *parser) word() api.Word {
	if p.token.Kind != lex.Word {
		p.wrong(api.ErrForm)
	}
	w := p.token.Word
	p.next()
	return w
}

// words reads as many words as there are.
func (p *parser) words() []api.Word {
	var l []api.Word
	for p.token.Kind == lex.Word {
		l = append(l, p.word())
	}
	return l
}

// assigns reads as many words as give names a value.
func (p *parser) assigns() []api.Assign {
	var l []api.Assign
	for p.token.Kind == lex.Word {
		name, value, ok := word.Split(p.token.Word)
		if !ok {
			break
		}
		l = append(l, api.Assign{Name: name, Word: value})
		p.next()
	}
	return l
}

// named: is the token that comes next a Name?
func (p *parser) named() bool {
	return p.token.Kind == lex.Word && class.Name(p.text)
}

// name reads a Name, a reserved one, too.
func (p *parser) name() string {
	if !p.named() {
		p.wrong(api.ErrForm)
	}
	s := p.text
	p.next()
	return s
}

// opens: does a compound begin here?
func (p *parser) opens() bool {
	return p.sees("{", "(", "if", "while", "until", "for", "case")
}

// simply: does a simple command begin here, or a function?
func (p *parser) simply() bool {
	return p.token.Kind == lex.Word && !class.Reserved(p.text)
}

// begins: does an item of a list begin here?
func (p *parser) begins() bool {
	return p.simply() || p.opens() || p.sees("!")
}

// enter goes on over a word or a sign that what is up to leave stands one deeper for.
func (p *parser) enter() {
	if p.depth == api.MaxDepth {
		p.wrong(api.ErrDeep)
	}
	p.depth++
	p.next()
}

// leave is for what enter was for, at its end.
func (p *parser) leave() {
	p.depth--
}
