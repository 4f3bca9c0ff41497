package vars_test

import (
	"fmt"
	"math/rand/v2"
	"strings"
	"testing"

	"deadfall/vars"
)

// said is one thing that was done to a scope, in this second reading of the chapter: nothing is kept but what was said, and what a name means is looked for from the last of it on.
type said struct {
	kind  string // set, args, shift, status, last
	name  string
	value string
	list  []string
	n     int
}

type history []said

func letter(c byte) bool {
	return strings.IndexByte("_abcdefghijklmnopqrstuvwxyzABCDEFGHIJKLMNOPQRSTUVWXYZ", c) >= 0
}

func isName(s string) bool {
	if s == "" || !letter(s[0]) {
		return false
	}
	for _, c := range []byte(s) {
		if !letter(c) && strings.IndexByte("0123456789", c) < 0 {
			return false
		}
	}
	return true
}

// args are the arguments, worked out from the beginning on.
func (h history) args() []string {
	var l []string
	for _, x := range h {
		switch x.kind {
		case "args":
			l = x.list
		case "shift":
			if x.n >= 0 && x.n <= len(l) {
				l = l[x.n:]
			}
		}
	}
	return l
}

// number is the last one of a kind, or 0.
func (h history) number(kind string) int {
	for i := len(h) - 1; i >= 0; i-- {
		if h[i].kind == kind {
			return h[i].n
		}
	}
	return 0
}

func (h history) variable(name string) (string, bool) {
	for i := len(h) - 1; i >= 0; i-- {
		if h[i].kind == "set" && h[i].name == name {
			return h[i].value, true
		}
	}
	return "", false
}

func (h history) get(name string) (string, bool) {
	l := h.args()
	switch {
	case isName(name):
		return h.variable(name)
	case name == "0":
		return "sh", true
	case name == "#":
		return fmt.Sprint(len(l)), true
	case name == "?":
		return fmt.Sprint(h.number("status")), true
	case name == "$":
		return "1", true
	case name == "!" && h.number("last") != 0:
		return fmt.Sprint(h.number("last")), true
	case (name == "@" || name == "*") && len(l) > 0:
		all := l[0]
		for _, a := range l[1:] {
			all += " " + a
		}
		return all, true
	}
	for i, a := range l {
		if name == fmt.Sprint(i+1) && i < 999 {
			return a, true
		}
	}
	return "", false
}

// names are all variables', each put in where it rises.
func (h history) names() []string {
	var l []string
	for _, x := range h {
		if x.kind != "set" || !isName(x.name) {
			continue
		}
		at := 0
		for at < len(l) && l[at] < x.name {
			at++
		}
		if at == len(l) || l[at] != x.name {
			l = append(l[:at:at], append([]string{x.name}, l[at:]...)...)
		}
	}
	return l
}

func asked() []string {
	return []string{"a", "b", "B", "_", "a1", "x", "0", "1", "2", "3", "4", "5", "9", "10", "11", "12", "00", "01", "#", "?", "$", "!", "@", "*", "", "-", "1a", "a-", "é"}
}

// thrown is something to do, by chance.
func thrown(r *rand.Rand) said {
	texts := []string{"", "v", "a b", "\xff", " ", "*"}
	some := func(l []string) string { return l[r.IntN(len(l))] }
	switch r.IntN(6) {
	case 0, 1:
		return said{kind: "set", name: some(asked()), value: some(texts)}
	case 2:
		var l []string
		for range r.IntN(13) {
			l = append(l, some(texts))
		}
		return said{kind: "args", list: l}
	case 3:
		return said{kind: "shift", n: r.IntN(6) - 1}
	case 4:
		return said{kind: "status", n: r.IntN(400) - 2}
	}
	return said{kind: "last", n: r.IntN(5) - 1}
}

// do does it to a scope, and holds what is answered.
func do(t *testing.T, s *vars.Scope, h history, x said) {
	t.Helper()
	switch x.kind {
	case "set":
		set(t, s, x.name, x.value, isName(x.name))
	case "args":
		s.SetArgs(x.list...)
	case "shift":
		shift(t, s, x.n, x.n >= 0 && x.n <= len(h.args()))
	case "status":
		s.SetStatus(x.n)
	case "last":
		s.SetLast(x.n)
	}
}

// hold holds all that a scope tells against what was said.
func hold(t *testing.T, s *vars.Scope, h history) {
	t.Helper()
	for _, name := range asked() {
		if v, ok := h.get(name); ok {
			is(t, s, name, v)
		} else {
			none(t, s, name)
		}
	}
	names(t, s, h.names()...)
	args(t, s, h.args()...)
	if s.Status() != h.number("status") || s.Last() != h.number("last") {
		t.Errorf("status %d, last %d, not %d and %d", s.Status(), s.Last(), h.number("status"), h.number("last"))
	}
}

// P9.1 to P9.4: scopes, and clones of them, to which this and that is done, against what was said to each.
func TestThrown(t *testing.T) {
	r := rand.New(rand.NewPCG(9, 1))
	for range 300 {
		scopes := []*vars.Scope{{}}
		told := []history{nil}
		for range 40 {
			i := r.IntN(len(scopes))
			if r.IntN(12) == 0 {
				scopes = append(scopes, scopes[i].Clone())
				told = append(told, append(history(nil), told[i]...))
			}
			x := thrown(r)
			do(t, scopes[i], told[i], x)
			told[i] = append(told[i], x)
			if r.IntN(4) == 0 {
				for j, s := range scopes {
					hold(t, s, told[j])
				}
			}
			if t.Failed() {
				return
			}
		}
	}
}
