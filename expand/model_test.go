package expand_test

import (
	"math/rand/v2"
	"slices"
	"strings"
	"testing"

	"deadfall/api"
	"deadfall/expand"
	"deadfall/field"
	"deadfall/vars"
	"deadfall/word"
)

// What a parameter comes to, in this second reading of the chapter, by its operator, and by whether it isn't set, is empty, or has a value: v its value's pieces, o the Pieces of its Of, n nothing, g what it is given, f a fault.
var comes = map[string]string{"": "vvv", "-": "ovv", ":-": "oov", "+": "noo", ":+": "nno", "=": "gvv", ":=": "ggv", "?": "fvv", ":?": "ffv"}

// reading is pieces that have come so far, of a word and of all that it stands in; a fault breaks it off by a panic.
type reading struct{ s *vars.Scope }

func (r reading) word(l []api.Part) []api.Piece {
	var all []api.Piece
	for _, p := range l {
		all = append(all, r.part(p)...)
		if len(text(all)) > 65536 {
			panic(expand.Fault{Kind: 2})
		}
	}
	return all
}

// text is pieces as one text, put together from the end on.
func text(l []api.Piece) string {
	var all []string
	for _, p := range slices.Backward(l) {
		if p.Cut {
			p.Text = " "
		}
		all = append(all, p.Text)
	}
	slices.Reverse(all)
	return strings.Join(all, "")
}

func (r reading) part(p api.Part) []api.Piece {
	if p.Kind == api.Lit {
		return []api.Piece{{Text: p.Text, Quoted: p.Quoted}}
	}
	way := comes[p.Op][r.standing(p.Text)]
	l := r.by(way, p)
	if p.Quoted && len(l) == 0 && (way != 'v' || p.Text != "@") {
		return []api.Piece{{Quoted: true}}
	}
	return l
}

// standing is 0 of what isn't set, 1 of what is empty, 2 of what has a value.
func (r reading) standing(name string) int {
	value, set := r.s.Get(name)
	switch {
	case !set:
		return 0
	case value == "":
		return 1
	}
	return 2
}

func (r reading) by(way byte, p api.Part) []api.Piece {
	switch way {
	case 'v':
		return r.value(p)
	case 'o':
		return r.word(p.Of)
	case 'g':
		r.s.Set(p.Text, text(r.word(p.Of)))
		return r.value(p)
	case 'f':
		why := text(r.word(p.Of))
		if len(p.Of) == 0 {
			why = "not set"
		}
		panic(expand.Fault{Kind: 1, Text: p.Text + ": " + why})
	}
	return nil
}

func (r reading) value(p api.Part) []api.Piece {
	value, set := r.s.Get(p.Text)
	if !set {
		return nil
	}
	if p.Text != "@" && (p.Text != "*" || p.Quoted) {
		return []api.Piece{{Text: value, Quoted: p.Quoted}}
	}
	var l []api.Piece
	for _, a := range r.s.Args() {
		l = append(l, api.Piece{Cut: true}, api.Piece{Text: a, Quoted: p.Quoted})
	}
	return l[1:]
}

// fields are the words' fields.
func (r reading) fields(l []api.Word) []string {
	var all []string
	for _, w := range l {
		all = append(all, field.Split(r.word(w))...)
		if len(all) > 4096 {
			panic(expand.Fault{Kind: 2})
		}
	}
	return all
}

// broken is what is done, and the fault that broke it off, if one did.
func broken(do func()) (f expand.Fault) {
	defer func() {
		if x := recover(); x != nil {
			f = x.(expand.Fault)
		}
	}()
	do()
	return
}

// same holds two scopes against each other.
func same(a, b *vars.Scope) bool {
	if !slices.Equal(a.Names(), b.Names()) || !slices.Equal(a.Args(), b.Args()) || a.Status() != b.Status() || a.Last() != b.Last() {
		return false
	}
	for _, name := range a.Names() {
		v, _ := a.Get(name)
		if w, _ := b.Get(name); v != w {
			return false
		}
	}
	return true
}

// hold holds words, by each call, against the second reading; none of it is done to the scope itself.
func hold(t *testing.T, s *vars.Scope, l ...api.Word) {
	t.Helper()
	for _, w := range l {
		a, b, c := s.Clone(), s.Clone(), s.Clone()
		var want []api.Piece
		fault := broken(func() { want = reading{a}.word(w) })
		if got, f := expand.Pieces(b, w); f != fault || !slices.Equal(got, want) || !same(a, b) {
			t.Errorf("Pieces of %.200q are %.200q, %.60v, not %.200q, %.60v (the same scope: %v)", word.Text(w), told(got), f, told(want), fault, same(a, b))
		}
		if got, f := expand.One(c, w); f != fault || got != text(want) || !same(a, c) {
			t.Errorf("One of %.200q is %.200q, %.60v, not %.200q, %.60v (the same scope: %v)", word.Text(w), got, f, text(want), fault, same(a, c))
		}
	}
	a, b := s.Clone(), s.Clone()
	var want []string
	fault := broken(func() { want = reading{a}.fields(l) })
	if got, f := expand.Fields(b, l...); f != fault || !slices.Equal(got, want) || !same(a, b) {
		t.Errorf("Fields are %.200q, %.60v, not %.200q, %.60v (the same scope: %v)", got, f, want, fault, same(a, b))
	}
}

func operators() []string { return []string{"", "-", ":-", "=", ":=", "+", ":+", "?", ":?"} }

// scopes are some, with and without variables, arguments, and somebody who was started.
func scopes() []*vars.Scope {
	var l []*vars.Scope
	for i, args := range [][]string{nil, {""}, {"", ""}, {"a"}, {" a b", "", "c"}} {
		for j, value := range []string{"", " v  w "} {
			s := with(args...)
			s.Set("a", value)
			s.SetLast(i * j)
			s.SetStatus(j)
			l = append(l, s)
			if j == 0 {
				l = append(l, with(args...))
			}
		}
	}
	return l
}

// each parameter of these names and operators, with each Of that is right within it.
func each(names []string, of []api.Word) []api.Part {
	var l []api.Part
	for _, name := range names {
		for _, op := range operators() {
			for _, w := range of {
				for _, quoted := range []bool{false, true} {
					p := api.Part{Kind: api.Param, Quoted: quoted, Text: name, Op: op, Of: w}
					if word.Right(api.Word{p}) {
						l = append(l, p)
					}
				}
			}
		}
	}
	return l
}

// P11.1 to P11.4: all parameters of some names, with all operators, and a parameter, or something else, within them; alone, and between others.
func TestEach(t *testing.T) {
	of := []api.Word{nil, word.Of("w"), word.Of(""), word.Of(" w  x "), {{Kind: api.Lit, Text: "y z"}}, {{Kind: api.Lit, Text: " y"}, {Kind: api.Lit, Quoted: true}, {Kind: api.Lit, Text: "z "}}}
	for _, p := range each([]string{"a", "b", "@"}, []api.Word{nil, word.Of("i j")}) {
		of = append(of, api.Word{p})
	}
	end := api.Word{{Kind: api.Param, Text: "a"}}
	for _, p := range each([]string{"a", "b", "1", "3", "@", "*", "#", "!"}, of) {
		for _, s := range scopes() {
			hold(t, s, append(append(slices.Clone(end), p), end...), api.Word{p})
			if t.Failed() {
				return
			}
		}
	}
}

// thrower makes right words by chance.
type thrower struct{ *rand.Rand }

func (r thrower) some(l ...string) string { return l[r.IntN(len(l))] }

func (r thrower) param(quoted bool, depth int) api.Part {
	p := api.Part{Kind: api.Param, Quoted: quoted, Text: r.some("a", "b", "c", "d", "long", "long", "@", "*", "1", "2", "3", "10", "0", "#", "?", "$", "!")}
	p.Op = operators()[r.IntN(9)]
	if strings.HasSuffix(p.Op, "=") {
		p.Text = r.some("a", "b", "c", "d")
	}
	if strings.HasSuffix(p.Op, "?") && r.IntN(3) > 0 {
		p.Op = "-"
	}
	if p.Op != "" && depth < 4 {
		p.Of = r.parts(quoted, depth+1)
	}
	return p
}

// parts are right ones within so many parameters, the innermost of them Quoted, or not.
func (r thrower) parts(quoted bool, depth int) []api.Part {
	var l []api.Part
	for range r.IntN(5) {
		p := api.Part{Kind: api.Lit, Quoted: quoted || r.IntN(3) == 0}
		switch {
		case r.IntN(2) == 0:
			p = r.param(p.Quoted, depth)
		case depth == 0 && !p.Quoted:
			p.Text = r.some("x", "yz", "*", "[", "\xff")
		case p.Quoted && quoted || !p.Quoted:
			p.Text = r.some("x", " ", " y", "y ", "\t", "\n", "x  y", "=")
		default:
			p.Text = r.some("", "x", " ", " y", "\n", "$", "'")
		}
		if n := len(l); n == 0 || p.Kind == api.Param || l[n-1].Kind == api.Param || l[n-1].Quoted != p.Quoted {
			l = append(l, p)
		}
	}
	return l
}

func (r thrower) scope() *vars.Scope {
	s := with()
	value := func() string { return r.some("", "", "v", "v w", " v ", "\n", "\xff") }
	var l []string
	for range r.IntN(5) {
		l = append(l, value())
	}
	if r.IntN(10) == 0 {
		l = slices.Repeat([]string{r.some("", "a")}, 1000*r.IntN(5))
	}
	s.SetArgs(l...)
	for _, name := range []string{"a", "b", "c"} {
		if r.IntN(2) == 0 {
			s.Set(name, value())
		}
	}
	s.Set("long", strings.Repeat(r.some("l", " ", "l "), r.IntN(9)*8192))
	s.SetStatus(r.IntN(256))
	s.SetLast(r.IntN(3))
	return s
}

// P11.1 to P11.4: words thrown together, in scopes thrown together, against the second reading.
func TestThrown(t *testing.T) {
	r := thrower{rand.New(rand.NewPCG(11, 1))}
	kinds := map[int]int{}
	for range 8000 {
		s := r.scope()
		var l []api.Word
		for range r.IntN(4) {
			l = append(l, r.parts(false, 0))
		}
		for _, w := range l {
			if !word.Value(w) {
				t.Fatalf("%+v isn't right", w)
			}
			_, f := expand.Pieces(s.Clone(), w)
			kinds[f.Kind]++
		}
		hold(t, s, l...)
		if t.Failed() {
			return
		}
	}
	for kind, least := range []int{4000, 400, 100} {
		if kinds[kind] < least {
			t.Errorf("too few of the kind %d: %v", kind, kinds)
		}
	}
}
