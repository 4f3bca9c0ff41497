package expand

import (
	"strings"

	"deadfall/api"
	"deadfall/vars"
)

// notSet is told of a parameter that must be set, where its word says nothing.
const notSet = "not set"

// param: what comes of a parameter.
func param(s *vars.Scope, p api.Part) ([]api.Piece, Fault) {
	ready := p.Op == "" || usable(s, p)
	if ready && !strings.HasSuffix(p.Op, "+") {
		return value(s, p), Fault{}
	}
	l, f := instead(s, p, ready)
	if len(l) == 0 && p.Quoted && f == (Fault{}) {
		l = piece("", true)
	}
	return l, f
}

// usable: is there a value that its operator takes for one?
func usable(s *vars.Scope, p api.Part) bool {
	text, set := s.Get(p.Text)
	return set && (text != "" || !strings.HasPrefix(p.Op, ":"))
}

// value: the value's pieces, or the empty one that comes in their place.
func value(s *vars.Scope, p api.Part) []api.Piece {
	if p.Text == "@" || p.Text == "*" && !p.Quoted {
		return arguments(s.Args(), p.Quoted)
	}
	text, set := s.Get(p.Text)
	if !set && !p.Quoted {
		return nil
	}
	return piece(text, p.Quoted)
}

// arguments: each as a piece, parted from the one ahead of it.
func arguments(l []string, quoted bool) []api.Piece {
	var all []api.Piece
	for i, text := range l {
		if i > 0 {
			all = append(all, api.Piece{Cut: true})
		}
		all = append(all, api.Piece{Text: text, Quoted: quoted})
	}
	return all
}

// instead: what comes where the value's pieces don't.
func instead(s *vars.Scope, p api.Part, ready bool) ([]api.Piece, Fault) {
	switch p.Op {
	case "=", ":=":
		return give(s, p)
	case "?", ":?":
		return nil, unset(s, p)
	case "+", ":+":
		if !ready {
			return nil, Fault{}
		}
	}
	return Pieces(s, p.Of)
}

// give: the parameter gets its word as value.
func give(s *vars.Scope, p api.Part) ([]api.Piece, Fault) {
	text, f := One(s, p.Of)
	if f != (Fault{}) {
		return nil, f
	}
	s.Set(p.Text, text)
	return piece(text, p.Quoted), Fault{}
}

// unset: the fault that it is, or the one that comes of what it would tell.
func unset(s *vars.Scope, p api.Part) Fault {
	why := notSet
	if len(p.Of) > 0 {
		text, f := One(s, p.Of)
		if f != (Fault{}) {
			return f
		}
		why = text
	}
	return Fault{Kind: Unset, Text: p.Text + ": " + why}
}
