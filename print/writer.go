package print

import (
	"strings"

	"deadfall/api"
	"deadfall/word"
)

// A writer writes right commands, and what stands in them.
type writer struct{ strings.Builder }

// write writes pieces, one behind the other, each by what it is.
func (w *writer) write(pieces ...any) {
	for _, p := range pieces {
		switch p := p.(type) {
		case string:
			w.WriteString(p)
		case api.Word:
			w.WriteString(word.Text(p))
		case api.Assign:
			w.write(p.Name, "=", p.Word)
		case api.Case:
			w.entry(p)
		case api.Node:
			w.command(p)
		}
	}
}

func (w *writer) command(n api.Node) {
	switch n.Kind {
	case api.Simple:
		w.simple(n)
	case api.And:
		w.write(n.Kids[0], " && ", n.Kids[1])
	case api.Or:
		w.write(n.Kids[0], " || ", n.Kids[1])
	case api.Not:
		w.write("! ", n.Kids[0])
	case api.List:
		w.list(n)
	case api.If:
		w.branch(n)
	case api.While:
		w.write("while ", n.Kids[0], "do ", n.Kids[1], "done")
	case api.Until:
		w.write("until ", n.Kids[0], "do ", n.Kids[1], "done")
	case api.For:
		w.loop(n)
	case api.Choose:
		w.choice(n)
	case api.Group:
		w.write("{ ", n.Kids[0], "}")
	case api.Subshell:
		w.write("(", n.Kids[0], ")")
	case api.Func:
		w.write(n.Name, "() ", n.Kids[0])
	}
}

func (w *writer) simple(n api.Node) {
	blank := ""
	for _, a := range n.Assigns {
		w.write(blank, a)
		blank = " "
	}
	for _, x := range n.Words {
		w.write(blank, x)
		blank = " "
	}
}

// list writes the list of a command; that of a program has lines.
func (w *writer) list(n api.Node) {
	for i, item := range n.Kids {
		end := "; "
		if n.Beside[i] {
			end = " & "
		}
		w.write(item, end)
	}
}

func (w *writer) branch(n api.Node) {
	w.write("if ", n.Kids[0], "then ", n.Kids[1])
	if len(n.Kids) == 3 {
		w.write("else ", n.Kids[2])
	}
	w.write("fi")
}

func (w *writer) loop(n api.Node) {
	w.write("for ", n.Name)
	if n.Given {
		w.write(" in")
		for _, x := range n.Words {
			w.write(" ", x)
		}
		w.write(";")
	}
	w.write(" do ", n.Kids[0], "done")
}

func (w *writer) choice(n api.Node) {
	w.write("case ", n.Words[0], " in ")
	for _, c := range n.Cases {
		w.write(c)
	}
	w.write("esac")
}

func (w *writer) entry(c api.Case) {
	ahead := "("
	for _, p := range c.Patterns {
		w.write(ahead, p)
		ahead = "|"
	}
	w.write(") ")
	for _, body := range c.Body {
		w.write(body)
	}
	w.write(";; ")
}
