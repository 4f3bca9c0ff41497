package state_test

import (
	"math/rand/v2"
	"reflect"
	"slices"
	"testing"

	"deadfall/api"
	"deadfall/frame"
	"deadfall/state"
)

// said is one thing that was done to a State, in this second reading of the chapter: nothing is kept but what was said, and what there is is looked for from the beginning on.
type said struct {
	kind string // new, fork, func, var, trap, push, strict
	name string
	n    int
	yes  bool
	node api.Node
}

type history []said

// commands are the functions' last ones.
func (h history) commands() map[string]api.Node {
	m := map[string]api.Node{}
	for _, x := range h {
		if x.kind == "func" && isName(x.name) {
			m[x.name] = x.node
		}
	}
	return m
}

// names are the functions', each put in where it rises.
func (h history) names() []string {
	var l []string
	for name := range h.commands() {
		at := 0
		for at < len(l) && l[at] < name {
			at++
		}
		l = slices.Insert(l, at, name)
	}
	return l
}

// variable is what was said of it last.
func (h history) variable(name string) (string, bool) {
	for i := len(h) - 1; i >= 0; i-- {
		if h[i].kind == "var" && h[i].name == name {
			return string(rune('a' + h[i].n)), true
		}
	}
	return "", false
}

// how is 1 or 2 where something is done as a condition comes: a fork keeps that it is ignored, of a signal.
func (h history) how(cond int) int {
	how := 0
	for _, x := range h {
		switch {
		case x.kind == "fork" && (how == 2 || cond == 0):
			how = 0
		case x.kind == "trap" && x.n == cond && x.name == "":
			how = 1
		case x.kind == "trap" && x.n == cond:
			how = 2
		}
	}
	return how
}

// toDo is what was put on the Stack since it is there.
func (h history) toDo() []frame.Item {
	var l []frame.Item
	for _, x := range h {
		switch x.kind {
		case "new", "fork":
			l = []frame.Item{{Kind: do, Node: x.node, Free: x.yes}}
		case "push":
			l = append(l, frame.Item{Kind: x.n, Node: x.node})
		}
	}
	return l
}

func (h history) strict() bool {
	strict := false
	for _, x := range h {
		if x.kind == "strict" {
			strict = x.yes
		}
	}
	return strict
}

var asked = []string{"a", "b", "_", "B", "a1", "if", "", "1", "1a", "a-", "\xff"}

// thrown is something to do, by chance.
func thrown(r *rand.Rand) said {
	x := said{name: asked[r.IntN(len(asked))], n: r.IntN(5), yes: r.IntN(2) == 0, node: api.Node{Kind: r.IntN(14), Name: asked[r.IntN(len(asked))]}}
	x.kind = []string{"func", "func", "var", "trap", "push", "strict", "fork"}[r.IntN(7)]
	if x.kind == "trap" && r.IntN(2) == 0 {
		x.name = ""
	} else if x.kind == "trap" {
		x.name = "action"
	}
	return x
}

// did does it to a State that goes on, and holds what is answered.
func did(t *testing.T, s *state.State, x said) {
	t.Helper()
	switch x.kind {
	case "func":
		define(t, s, x.name, x.node, isName(x.name))
	case "var":
		s.Scope.Set(x.name, string(rune('a'+x.n)))
	case "trap":
		s.Traps.Set(x.n, x.name)
	case "push":
		s.Stack.Push(frame.Item{Kind: x.n, Node: x.node})
	case "strict":
		s.Strict = x.yes
	}
}

// agree holds what a State has against what was said.
func agree(t *testing.T, s *state.State, h history) {
	t.Helper()
	funcs(t, s, h.names()...)
	commands := h.commands()
	for _, name := range asked {
		if n, ok := commands[name]; ok {
			is(t, s, name, n)
		} else {
			none(t, s, name)
		}
		v, ok := s.Scope.Get(name)
		if want, set := h.variable(name); isName(name) && (v != want || ok != set) {
			t.Errorf("the variable %q is %q, %v, not %q, %v", name, v, ok, want, set)
		}
	}
	for cond := range 5 {
		if got, want := s.Traps.How(cond), h.how(cond); got != want {
			t.Errorf("how of %d is %d, not %d", cond, got, want)
		}
	}
	if got, want := items(s.Stack), h.toDo(); !reflect.DeepEqual(got, want) {
		t.Errorf("to do is %+v, not %+v", got, want)
	}
	if s.Strict != h.strict() {
		t.Errorf("Strict is %v", s.Strict)
	}
}

// P16.1, P16.2: States, and what is forked of them, to which this and that is done, against what was said to each.
func TestThrown(t *testing.T) {
	r := rand.New(rand.NewPCG(16, 1))
	for range 200 {
		first := said{kind: "new", node: api.Node{Kind: r.IntN(14)}}
		states, told := []*state.State{state.New(0, first.node)}, []history{{first}}
		for range 50 {
			i, x := r.IntN(len(states)), thrown(r)
			h := append(slices.Clone(told[i]), x)
			if x.kind == "fork" {
				states, told = append(states, states[i].Fork(x.node, x.yes)), append(told, h)
			} else {
				did(t, states[i], x)
				told[i] = h
			}
		}
		for i, s := range states {
			agree(t, s, told[i])
		}
		if t.Failed() {
			return
		}
	}
}
