package expand_test

import (
	"math"
	"slices"
	"strings"
	"testing"

	"deadfall/api"
	"deadfall/expand"
	"deadfall/vars"
	"deadfall/word"
)

const half = api.MaxValue / 2

// wide is a scope with variables of half as many bytes as a word may come to, of all of them, and of one more.
func wide() *vars.Scope {
	s := with()
	s.Set("half", strings.Repeat("h", half))
	s.Set("all", strings.Repeat("a", api.MaxValue))
	s.Set("more", strings.Repeat("m", api.MaxValue+1))
	s.Set("e", "")
	return s
}

// P11.1: more bytes than a value may have, of a word, or of a parameter's own word, in whatever way they come.
func TestLarge(t *testing.T) {
	for _, text := range []string{`$more`, `"$more"`, `$half$half.`, `.$half$half`, `$all.`, `$all'.'`, `"$half$half$half"`, `"$all$all"`, `$all${none-.}`, `${e:-$all.}`, `${none-$more}`, `"${none-$more}"`, `${e+$all.}`, `${none?$all.}`, `${none=$all.}`, `"${e:=$half$half.}"`, `${none-${none-$more}}`, `${more-.}`, `${more?}`, `${all=}.`, `${none=$all}.`, `${none=$half}$none.`, `${none?${none=$all}.}`} {
		fails(t, wide(), text, large)
	}
	for _, text := range []string{`$all`, `"$all"`, `$half$half`, `"$half$half"`, `$all$e$none''"$none"`, `${more+.}`, `${none-$all}`, `"${none-$half$half}"`, `${all-$more}`, `${e-$more}`, `${none+$more}`, `${none=$all}`, `"${none:=$half$half}"`, `${all?$more}`, `${all+${more:+.}}`} {
		if _, f := expand.One(wide(), readOne(t, text)); f != none {
			t.Errorf("One of %q: %.60v", text, f)
		}
	}
	fails(t, wide(), `${none?$all}`, unset("none: "+strings.Repeat("a", api.MaxValue)))
	isFields(t, wide(), `$all $half"$half"`, strings.Repeat("a", api.MaxValue), strings.Repeat("h", api.MaxValue))
}

// P11.1: a text of the word itself counts, Quoted or not.
func TestLargeText(t *testing.T) {
	for _, quoted := range []bool{false, true} {
		for n := api.MaxValue - 2; n <= api.MaxValue+2; n++ {
			w := api.Word{{Kind: api.Lit, Quoted: quoted, Text: strings.Repeat("w", n)}}
			l, f := expand.Fields(with(), w)
			switch {
			case n > api.MaxValue && (f != large || len(l) > 0):
				t.Errorf("%d bytes: %.60v, %d fields", n, f, len(l))
			case n <= api.MaxValue && (f != none || !slices.Equal(l, fields(w[0].Text))):
				t.Errorf("%d bytes: %.60v, %d fields", n, f, len(l))
			}
		}
	}
}

// P11.1: a Cut is a byte (layer 10's Bytes).
func TestLargeCuts(t *testing.T) {
	for _, text := range []string{`$@`, `"$@"`, `$*`, `"$*"`, `${none-$@}`, `"${none-$@}"`} {
		s := with(strings.Repeat("a", half-1), strings.Repeat("b", half))
		if one, f := expand.One(s, readOne(t, text)); f != none || len(one) != api.MaxValue {
			t.Errorf("One of %q: %.60v, %d bytes", text, f, len(one))
		}
		fails(t, with(strings.Repeat("a", half), strings.Repeat("b", half)), text, large)
		fails(t, with(slices.Repeat(fields(""), api.MaxValue+2)...), text, large)
		if one, f := expand.One(with(slices.Repeat(fields(""), api.MaxValue+1)...), readOne(t, text)); f != none || one != strings.Repeat(" ", api.MaxValue) {
			t.Errorf("One of %q: %.60v, %d bytes", text, f, len(one))
		}
	}
}

// P11.1: of several faults the first one, from the left; a part that makes a word Large has been done.
func TestFirstFault(t *testing.T) {
	fails(t, wide(), `$all.${none?}`, large)
	fails(t, wide(), `${none?}$all.`, unset("none: not set"))
	fails(t, wide(), `$all${none?}.`, unset("none: not set"))
	fails(t, wide(), `$all${none-.${none?}}`, unset("none: not set"))
	fails(t, wide(), `${none?$all.${none?}}`, large)
	fails(t, wide(), `${none?${e:?}$all.}`, unset("e: not set"))
	s := wide()
	fails(t, s, `$all${a=1}${b=2}`, large)
	has(t, s, "a", "1")
	lacks(t, s, "b")
}

// P11.3: as many fields as there may be, and more: of one word, and of many.
func TestManyFields(t *testing.T) {
	s := with(slices.Repeat(fields("a"), api.MaxFields)...)
	all := s.Args()
	isFields(t, s, `$@`, all...)
	isFields(t, s, `"$@"`, all...)
	isFields(t, s, `$@ $none $e`, all...)
	isFields(t, s, `$@$none`, all...)
	isFields(t, s, `$none x"$@"`, append(fields("xa"), all[1:]...)...)
	many := func(text string) {
		t.Helper()
		if l, f := expand.Fields(s, read(t, text)...); f != large || len(l) > 0 {
			t.Errorf("Fields of %.60q: %v, %d of them", text, f, len(l))
		}
	}
	many(`$@ a`)
	many(`a $@`)
	many(`$@ ''`)
	many(`"$@" "$none"`)
	many(`$@$@`)
	many(`$@ $@`)
	s.SetArgs(slices.Repeat(fields("a"), api.MaxFields+1)...)
	many(`$@`)
	many(`"$@"`)
	if l, f := expand.Pieces(s, readOne(t, `"$@"`)); f != none || len(l) != 2*api.MaxFields+1 {
		t.Errorf("Pieces: %v, %d of them", f, len(l))
	}
	if one, f := expand.One(s, readOne(t, `$@`)); f != none || len(one) != 2*api.MaxFields+1 {
		t.Errorf("One: %v, %d bytes", f, len(one))
	}
	s.Set("x", strings.Repeat(" a", api.MaxFields))
	isFields(t, s, `$x`, all...)
	s.Set("x", strings.Repeat(" a", api.MaxFields+1))
	many(`$x`)
	isFields(t, s, `"$x"`, strings.Repeat(" a", api.MaxFields+1))
}

// P11.3: words each of one field.
func TestManyWords(t *testing.T) {
	l := slices.Repeat([]api.Word{word.Of("")}, api.MaxFields)
	if got, f := expand.Fields(with(), l...); f != none || !slices.Equal(got, slices.Repeat(fields(""), api.MaxFields)) {
		t.Errorf("%v, %d fields", f, len(got))
	}
	if got, f := expand.Fields(with(), append(l, word.Of(""))...); f != large || len(got) > 0 {
		t.Errorf("%v, %d fields", f, len(got))
	}
	if got, f := expand.Fields(with(), append(l, nil, nil)...); f != none || len(got) != api.MaxFields {
		t.Errorf("%v, %d fields", f, len(got))
	}
}

// P11.3: too many fields are Large as soon as they are: later words don't count any more, and the word that makes them so does.
func TestSoon(t *testing.T) {
	s := with(slices.Repeat(fields("a"), api.MaxFields)...)
	for text, want := range map[string]expand.Fault{
		`$@ ${a=1} ${none?}`:        large,
		`$@ ${a=1} ${b=2}`:          large,
		`$@ ${a=1}${none?} ${b=2}`:  unset("none: not set"),
		`${a=1} $@ ${none?} ${b=2}`: large,
		`$@ $@${a=1}${none?}`:       unset("none: not set"),
		`$@ "$@${a=1}" ${b=2}`:      large,
		`$@ '' ${none?}`:            large,
		`$@ ${none?}`:               unset("none: not set"),
	} {
		c := s.Clone()
		if l, f := expand.Fields(c, read(t, text)...); f != want || len(l) > 0 {
			t.Errorf("Fields of %q: %v, %d of them", text, f, len(l))
		}
		if strings.Contains(text, "a=") {
			has(t, c, "a", "1")
		}
		lacks(t, c, "b", "none")
	}
}

// P1: parameters as deep as they may stand.
func TestDeep(t *testing.T) {
	for _, c := range []struct{ begin, end string }{{"${none-", "}"}, {"${none:-", "}"}, {"${x+", "}"}, {"${none-${x:+", "}}"}} {
		n := api.MaxDepth / strings.Count(c.begin, "$")
		text := strings.Repeat(c.begin, n) + "a b" + strings.Repeat(c.end, n)
		s := with()
		s.Set("x", "1")
		isPieces(t, s, text, u("a b"))
		isPieces(t, s, `"`+text+`"`, q("a b"))
	}
	deep := strings.Repeat("${x=", api.MaxDepth) + "1" + strings.Repeat("}", api.MaxDepth)
	s := with()
	isPieces(t, s, deep, u("1"))
	has(t, s, "x", "1")
	fails(t, with(), strings.Repeat("${x?", api.MaxDepth)+"}"+strings.Repeat("}", api.MaxDepth-1), unset("x: not set"))
}

// P1: words of very many parts, that are nothing, end soon.
func TestLong(t *testing.T) {
	const n = 1 << 18
	empty := api.Word(slices.Repeat([]api.Part{{Kind: api.Param, Text: "e"}, {Kind: api.Param, Text: "none", Quoted: true}, {Kind: api.Param, Text: "@", Quoted: true}}, n))
	s := with()
	s.Set("e", "")
	want := slices.Repeat(pieces(u(""), q("")), n)
	if l, f := expand.Pieces(s, empty); f != none || !slices.Equal(l, want) {
		t.Errorf("%v, %d pieces", f, len(l))
	}
	if one, f := expand.One(s, api.Word{{Kind: api.Param, Text: "none", Op: "-", Of: empty}}); f != none || one != "" {
		t.Errorf("%v, %d bytes", f, len(one))
	}
	if l, f := expand.Fields(s, slices.Repeat([]api.Word{empty[:1]}, n)...); f != none || len(l) > 0 {
		t.Errorf("%v, %d fields", f, len(l))
	}
	if l, f := expand.Pieces(s, slices.Repeat(api.Word{{Kind: api.Param, Text: "#"}}, api.MaxValue)); f != none || len(l) != api.MaxValue {
		t.Errorf("%v, %d pieces", f, len(l))
	}
}

// P1: what isn't a right word ends, and none panics.
func TestWrongWords(t *testing.T) {
	s := full()
	for _, kind := range []int{math.MinInt, -1, 0, api.Lit, api.Param, 3, math.MaxInt} {
		for _, name := range []string{"", "v", "none", "@", "01", "-", "\xff"} {
			for _, op := range []string{"", "-", ":", ":+", "=", ":=", "?", "%", "\x00"} {
				for _, quoted := range []bool{false, true} {
					w := api.Word{{Kind: kind, Text: name, Op: op, Quoted: quoted, Of: []api.Part{{Kind: kind, Text: name, Op: op}}}}
					expand.Pieces(s, w)
					expand.Fields(s, w, w)
					expand.One(s, w)
				}
			}
		}
	}
}

// words are some in which parts of each kind stand, with spare room behind them.
func words(t *testing.T) []api.Word {
	t.Helper()
	l := read(t, `a'b'$v"${none-c$@}"${new=d$x} ${v+$*} "$x" ${none:-'e'f}`)
	for i := range l {
		l[i] = slices.Grow(l[i], 3)
		for j := range l[i] {
			l[i][j].Of = slices.Grow(l[i][j].Of, 3)
		}
	}
	return slices.Grow(l, 3)
}

// Rules: what is handed in is not changed, spare room included, and not kept.
func TestUnchanged(t *testing.T) {
	l, before := words(t), words(t)
	s := full()
	w := l[0]
	some, _ := expand.Pieces(s, w)
	all, _ := expand.Fields(s, l...)
	one, _ := expand.One(s, w)
	first, again := slices.Clone(some), slices.Clone(all)
	for i := range before {
		if !word.Same(l[i], before[i]) {
			t.Errorf("the word is %+v now", l[i])
		}
		if !word.Same(l[i][:cap(l[i])], append(slices.Clone(before[i]), make([]api.Part, cap(l[i])-len(l[i]))...)) {
			t.Error("spare room was written into")
		}
	}
	for _, x := range l[len(l):cap(l)] {
		if x != nil {
			t.Error("spare room was written into")
		}
	}
	for i := range l {
		for j := range l[i] {
			clear(l[i][j].Of[:cap(l[i][j].Of)])
		}
		clear(l[i][:cap(l[i])])
	}
	clear(l[:cap(l)])
	if !slices.Equal(some, first) || !slices.Equal(all, again) || one != "abvalca b  cd 1  2 " {
		t.Errorf("written over behind the calls: %q, %q, %q", told(some), all, one)
	}
	has(t, s, "new", "d 1  2 ")
}

// Rules: an answer is new memory, spare room too: neither other answers nor the scope nor the words are told of what is written into it.
func TestNewMemory(t *testing.T) {
	s := full()
	for _, text := range []string{`a`, `$v`, `$@`, `"$@"`, `"$*"`, `${none-$@}`, `"${none-$@}"`, `${v+"$@"x}`, `${new=$@}`, `"$none"`, `a$@'b'$@`} {
		w := readOne(t, text)
		want, _ := expand.Pieces(s, w)
		want = slices.Clone(want)
		l, _ := expand.Pieces(s, w)
		for i := range l[:cap(l)] {
			l[:cap(l)][i] = api.Piece{Text: "written"}
		}
		isPieces(t, s, text, want...)
		fields, _ := expand.Fields(s, w)
		again := slices.Clone(fields)
		more, _ := expand.Fields(s, w)
		for i := range more[:cap(more)] {
			more[:cap(more)][i] = "written"
		}
		if !slices.Equal(fields, again) {
			t.Errorf("Fields of %q are %q now", text, fields)
		}
		isFields(t, s, text, again...)
		if !word.Same(w, readOne(t, text)) || !slices.Equal(s.Args(), full().Args()) {
			t.Errorf("%q: the word, or the scope, was written into", text)
		}
	}
}

// P2: nothing but the variables that get a value is another one in the scope.
func TestScope(t *testing.T) {
	s := full()
	s.SetLast(3)
	isFields(t, s, `$v "$@" ${v+$*} ${none-x} ${v:?} ${1-y} $# $?`, "val", "a b", "", "c", "a", "b", "c", "x", "val", "a", "b", "3", "7")
	fails(t, s, `${none?x}`, unset("none: x"))
	if !slices.Equal(s.Names(), fields("e", "v", "x")) || !slices.Equal(s.Args(), fields("a b", "", "c")) || s.Status() != 7 || s.Last() != 3 {
		t.Error(s.Names(), s.Args(), s.Status(), s.Last())
	}
	isFields(t, s, `${new=1}`, "1")
	if !slices.Equal(s.Names(), fields("e", "new", "v", "x")) {
		t.Error(s.Names())
	}
}
