package expand_test

import (
	"slices"
	"strings"
	"testing"

	"deadfall/api"
	"deadfall/expand"
	"deadfall/field"
	"deadfall/lex"
	"deadfall/vars"
	"deadfall/word"
)

var none expand.Fault

var large = expand.Fault{Kind: expand.Large}

func unset(text string) expand.Fault { return expand.Fault{Kind: expand.Unset, Text: text} }

// u is a piece that isn't Quoted, q one that is, cut one that parts fields.
func u(s string) api.Piece { return api.Piece{Text: s} }
func q(s string) api.Piece { return api.Piece{Text: s, Quoted: true} }

var cut = api.Piece{Cut: true}

func pieces(l ...api.Piece) []api.Piece { return l }

func fields(l ...string) []string { return l }

// read is the words of a text.
func read(t *testing.T, s string) []api.Word {
	t.Helper()
	var l []api.Word
	for _, x := range lex.Scan(s) {
		switch x.Kind {
		case lex.Word:
			l = append(l, x.Word)
		case lex.End:
			return l
		default:
			t.Fatalf("%.60q isn't words", s)
		}
	}
	return l
}

// readOne is the one word of a text; of an empty one, the one without parts.
func readOne(t *testing.T, s string) api.Word {
	t.Helper()
	l := read(t, s)
	if len(l) == 0 {
		return nil
	}
	if len(l) > 1 {
		t.Fatalf("%.60q is %d words", s, len(l))
	}
	return l[0]
}

// with is a scope that has these arguments.
func with(l ...string) *vars.Scope {
	s := &vars.Scope{}
	s.SetArgs(l...)
	return s
}

// full is a scope of some variables and arguments: v has a value, x one with Breaks, e an empty one, and nothing else has one.
func full() *vars.Scope {
	s := with("a b", "", "c")
	s.Set("v", "val")
	s.Set("x", " 1  2 ")
	s.Set("e", "")
	s.SetStatus(7)
	return s
}

// isPieces holds what comes of a word, and what One makes of it.
func isPieces(t *testing.T, s *vars.Scope, text string, want ...api.Piece) {
	t.Helper()
	w := readOne(t, text)
	twin := s.Clone()
	if got, f := expand.Pieces(s, w); f != none || !slices.Equal(got, want) {
		t.Errorf("Pieces of %.60q are %.200q, %.60v, not %.200q", text, told(got), f, told(want))
	}
	if got, f := expand.One(twin, w); f != none || got != field.Join(want) {
		t.Errorf("One of %.60q is %.60q, %.60v, not %.60q", text, got, f, field.Join(want))
	}
}

func isFields(t *testing.T, s *vars.Scope, text string, want ...string) {
	t.Helper()
	if got, f := expand.Fields(s, read(t, text)...); f != none || !slices.Equal(got, want) {
		t.Errorf("Fields of %.60q are %.200q, %.60v, not %.200q", text, got, f, want)
	}
}

// fails holds that a word's fault is this one, from each call, and that nothing else is answered.
func fails(t *testing.T, s *vars.Scope, text string, want expand.Fault) {
	t.Helper()
	w := readOne(t, text)
	if l, f := expand.Pieces(s.Clone(), w); f != want || len(l) > 0 {
		t.Errorf("Pieces of %.60q have the fault %.60v, not %.60v, and are %d", text, f, want, len(l))
	}
	if l, f := expand.Fields(s.Clone(), w); f != want || len(l) > 0 {
		t.Errorf("Fields of %.60q have the fault %.60v, not %.60v, and are %d", text, f, want, len(l))
	}
	if one, f := expand.One(s, w); f != want || one != "" {
		t.Errorf("One of %.60q has the fault %.60v, not %.60v, and is %.60q", text, f, want, one)
	}
}

// has holds that a variable is set, and lacks that none of these is.
func has(t *testing.T, s *vars.Scope, name, want string) {
	t.Helper()
	if got, ok := s.Get(name); got != want || !ok {
		t.Errorf("%s is %.60q, %v, not %.60q", name, got, ok, want)
	}
}

func lacks(t *testing.T, s *vars.Scope, names ...string) {
	t.Helper()
	for _, name := range names {
		if got, ok := s.Get(name); got != "" || ok {
			t.Errorf("%s is %.60q, %v, and should not be set", name, got, ok)
		}
	}
}

// told is pieces as texts: U, Q or C, and what stands in them.
func told(l []api.Piece) []string {
	var all []string
	for _, p := range l {
		switch {
		case p.Cut && !p.Quoted:
			all = append(all, "C"+p.Text)
		case p.Cut:
			all = append(all, "Quoted C"+p.Text)
		case p.Quoted:
			all = append(all, "Q"+p.Text)
		default:
			all = append(all, "U"+p.Text)
		}
	}
	return all
}

// The chapter's and the document's examples.
func TestExamples(t *testing.T) {
	isFields(t, with("a b", "c"), `x"$@"y`, "xa b", "cy")
}

// P11.1: of a text comes that text, as it is, Quoted or not; of nothing nothing.
func TestTexts(t *testing.T) {
	for _, c := range []struct {
		text string
		want []api.Piece
	}{
		{``, nil},
		{`a`, pieces(u("a"))},
		{`'a'`, pieces(q("a"))},
		{`''`, pieces(q(""))},
		{`""`, pieces(q(""))},
		{`a'b'c`, pieces(u("a"), q("b"), u("c"))},
		{`'a b'`, pieces(q("a b"))},
		{`a\ b`, pieces(u("a"), q(" "), u("b"))},
		{`'$v'`, pieces(q("$v"))},
		{`\$v`, pieces(q("$"), u("v"))},
		{`"\$v"`, pieces(q("$v"))},
		{`a*[b]?`, pieces(u("a*[b]?"))},
		{"'\xff'\xfe", pieces(q("\xff"), u("\xfe"))},
	} {
		isPieces(t, full(), c.text, c.want...)
	}
	for c := range 256 {
		one := string([]byte{byte(c)})
		for _, quoted := range []bool{false, true} {
			want := pieces(api.Piece{Text: one, Quoted: quoted})
			if got, f := expand.Pieces(full(), api.Word{{Kind: api.Lit, Quoted: quoted, Text: one}}); f != none || !slices.Equal(got, want) {
				t.Errorf("Pieces of the byte %d are %q, %v", c, told(got), f)
			}
		}
	}
}

// P11.1: what comes of the parts stands one behind the other, and nothing of it is put together, or parted.
func TestParts(t *testing.T) {
	for _, c := range []struct {
		text string
		want []api.Piece
	}{
		{`$v$v`, pieces(u("val"), u("val"))},
		{`"$v$v"`, pieces(q("val"), q("val"))},
		{`$v"$v"`, pieces(u("val"), q("val"))},
		{`a$v'b'"$v"`, pieces(u("a"), u("val"), q("b"), q("val"))},
		{`"a${v}b"`, pieces(q("a"), q("val"), q("b"))},
		{`$x`, pieces(u(" 1  2 "))},
		{`"$x"`, pieces(q(" 1  2 "))},
		{`$x$none"$none"$e`, pieces(u(" 1  2 "), q(""), u(""))},
		{`a"$@"b`, pieces(u("a"), q("a b"), cut, q(""), cut, q("c"), u("b"))},
		{`"$@$@"`, pieces(q("a b"), cut, q(""), cut, q("c"), q("a b"), cut, q(""), cut, q("c"))},
		{`${none-a$v"b"}c`, pieces(u("a"), u("val"), q("b"), u("c"))},
	} {
		isPieces(t, full(), c.text, c.want...)
	}
}

// P11.2: the value's pieces, without an operator, of each kind of name.
func TestValues(t *testing.T) {
	s := full()
	s.SetLast(12)
	for name, value := range map[string]string{"v": "val", "x": " 1  2 ", "e": "", "0": "sh", "1": "a b", "2": "", "3": "c", "#": "3", "?": "7", "$": "1", "!": "12"} {
		isPieces(t, s, "$"+name, u(value))
		isPieces(t, s, "${"+name+"}", u(value))
		isPieces(t, s, `"$`+name+`"`, q(value))
		isPieces(t, s, `"${`+name+`}"`, q(value))
	}
	for _, name := range []string{"none", "4", "10", "999", "!"} {
		isPieces(t, full(), "${"+name+"}")
		isPieces(t, full(), `"${`+name+`}"`, q(""))
		isPieces(t, full(), `a${`+name+`}b`, u("a"), u("b"))
	}
	isPieces(t, with(strings.Split("a b c d e f g h i j k", " ")...), "$10${10}${11}", u("a"), u("0"), u("j"), u("k"))
}

// P11.2: all arguments, by @ and by *, Quoted and not.
func TestArguments(t *testing.T) {
	for _, c := range []struct {
		args []string
		each []api.Piece // not Quoted
		all  []api.Piece // of "$*"
	}{
		{nil, nil, pieces(q(""))},
		{fields(""), pieces(u("")), pieces(q(""))},
		{fields("a"), pieces(u("a")), pieces(q("a"))},
		{fields("a", "b"), pieces(u("a"), cut, u("b")), pieces(q("a b"))},
		{fields("a b", "c"), pieces(u("a b"), cut, u("c")), pieces(q("a b c"))},
		{fields("", ""), pieces(u(""), cut, u("")), pieces(q(" "))},
		{fields("", "a", ""), pieces(u(""), cut, u("a"), cut, u("")), pieces(q(" a "))},
		{fields(" ", "\n", "*"), pieces(u(" "), cut, u("\n"), cut, u("*")), pieces(q("  \n *"))},
	} {
		quoted := slices.Clone(c.each)
		for i := range quoted {
			quoted[i].Quoted = !quoted[i].Cut
		}
		s := with(c.args...)
		isPieces(t, s, `$@`, c.each...)
		isPieces(t, s, `$*`, c.each...)
		isPieces(t, s, `${@}`, c.each...)
		isPieces(t, s, `${*}`, c.each...)
		isPieces(t, s, `"$@"`, quoted...)
		isPieces(t, s, `"${@}"`, quoted...)
		isPieces(t, s, `"$*"`, c.all...)
		isPieces(t, s, `"${*}"`, c.all...)
	}
}

// P11.2: each operator, of what isn't set, of what is empty, and of what has a value; Quoted and not.
func TestOperators(t *testing.T) {
	for _, c := range []struct{ op, unset, empty, value string }{
		{"-", "word", "", "val"},
		{":-", "word", "word", "val"},
		{"+", "nothing", "word", "word"},
		{":+", "nothing", "nothing", "word"},
		{"=", "word", "", "val"},
		{":=", "word", "word", "val"},
		{"?", "fault", "", "val"},
		{":?", "fault", "fault", "val"},
	} {
		for name, want := range map[string]string{"none": c.unset, "e": c.empty, "v": c.value} {
			text := "${" + name + c.op + "word}"
			switch want {
			case "fault":
				fails(t, full(), text, unset(name+": word"))
				fails(t, full(), `"`+text+`"`, unset(name+": word"))
			case "nothing":
				isPieces(t, full(), text)
				isPieces(t, full(), `"`+text+`"`, q(""))
			default:
				isPieces(t, full(), text, u(want))
				isPieces(t, full(), `"`+text+`"`, q(want))
			}
		}
	}
}

// P11.2: operators with the parameters that are no Names.
func TestOtherNames(t *testing.T) {
	for _, c := range []struct {
		text string
		want []api.Piece
	}{
		{`${1-w}`, pieces(u("a b"))},
		{`${2-w}`, pieces(u(""))},
		{`${2:-w}`, pieces(u("w"))},
		{`${4-w}`, pieces(u("w"))},
		{`${0-w}${#-w}${?-w}${$-w}`, pieces(u("sh"), u("3"), u("7"), u("1"))},
		{`${0+w}${#+w}${?:+w}${$:+w}`, pieces(u("w"), u("w"), u("w"), u("w"))},
		{`${!-w}${!+x}`, pieces(u("w"))},
		{`"${!+x}"`, pieces(q(""))},
		{`${#?}${1:?}`, pieces(u("3"), u("a b"))},
		{`${@-w}`, pieces(u("a b"), cut, u(""), cut, u("c"))},
		{`"${@-w}"`, pieces(q("a b"), cut, q(""), cut, q("c"))},
		{`"${@:?w}"`, pieces(q("a b"), cut, q(""), cut, q("c"))},
		{`${*:-w}`, pieces(u("a b"), cut, u(""), cut, u("c"))},
		{`"${*:-w}"`, pieces(q("a b  c"))},
		{`"${*?}"`, pieces(q("a b  c"))},
		{`"${@+w}${*:+x}"`, pieces(q("w"), q("x"))},
	} {
		isPieces(t, full(), c.text, c.want...)
	}
	for _, name := range []string{"@", "*", "1", "!"} {
		isPieces(t, with(), "${"+name+"-w}", u("w"))
		isPieces(t, with(), `"${`+name+`-w}"`, q("w"))
		isPieces(t, with(), "${"+name+"+w}")
		isPieces(t, with(), `"${`+name+`+w}"`, q(""))
		fails(t, with(), "${"+name+"?}", unset(name+": not set"))
		fails(t, with(), `"${`+name+`:?w}"`, unset(name+": w"))
	}
}

// P11.2: all arguments' value is empty just where there is one, that is.
func TestEmptyArguments(t *testing.T) {
	for _, name := range []string{"@", "*"} {
		isPieces(t, with(""), "${"+name+"-w}", u(""))
		isPieces(t, with(""), "${"+name+":-w}", u("w"))
		isPieces(t, with(""), `"${`+name+`:-w}"`, q("w"))
		isPieces(t, with(""), `"${`+name+`-w}"`, q(""))
		isPieces(t, with(""), "${"+name+":+w}")
		isPieces(t, with(""), "${"+name+"+w}", u("w"))
		fails(t, with(""), "${"+name+":?}", unset(name+": not set"))
		isPieces(t, with("", ""), "${"+name+":-w}", u(""), cut, u(""))
		isPieces(t, with("", ""), "${"+name+":+w}", u("w"))
	}
}

// P11.2: where no piece comes an empty Quoted one does, if the parameter is Quoted; but not of "$@".
func TestNoPiece(t *testing.T) {
	for _, c := range []struct {
		text string
		want []api.Piece
	}{
		{`$none`, nil},
		{`"$none"`, pieces(q(""))},
		{`"$none$none"`, pieces(q(""), q(""))},
		{`$@`, nil},
		{`"$@"`, nil},
		{`"$@$@"`, nil},
		{`""$@""`, pieces(q(""), q(""))},
		{`a"$@"`, pieces(u("a"))},
		{`"a$@"`, pieces(q("a"))},
		{`$*`, nil},
		{`"$*"`, pieces(q(""))},
		{`${none-}`, nil},
		{`"${none-}"`, pieces(q(""))},
		{`${none:-}`, nil},
		{`${none+}`, nil},
		{`"${none+}"`, pieces(q(""))},
		{`${#+}`, nil},
		{`"${#+}"`, pieces(q(""))},
		{`${none-$none}`, nil},
		{`"${none-$none}"`, pieces(q(""))},
		{`${none-$@}`, nil},
		{`"${none-$@}"`, pieces(q(""))},
		{`${none-"$@"}`, nil},
		{`"${@-}"`, pieces(q(""))},
		{`"${@-$@}"`, pieces(q(""))},
		{`"${@-$@$*}"`, pieces(q(""))},
		{`"${@+x}"`, pieces(q(""))},
		{`"${@:+$@}"`, pieces(q(""))},
		{`"${#+$@}"`, pieces(q(""))},
		{`${#+"$@"}`, nil},
		{`${none-''}`, pieces(q(""))},
		{`${none-${none-}}`, nil},
		{`"${none-${none-}}"`, pieces(q(""))},
	} {
		isPieces(t, with(), c.text, c.want...)
	}
}

// P11.2: what comes of a parameter's own word is Quoted as it is there.
func TestWithin(t *testing.T) {
	for _, c := range []struct {
		text string
		want []api.Piece
	}{
		{`${none-a b}`, pieces(u("a b"))},
		{`${none-'a b'}`, pieces(q("a b"))},
		{`${none-a'b'c}`, pieces(u("a"), q("b"), u("c"))},
		{`${none-"$x"$x}`, pieces(q(" 1  2 "), u(" 1  2 "))},
		{`"${none-a b}"`, pieces(q("a b"))},
		{`"${none-a $x b}"`, pieces(q("a "), q(" 1  2 "), q(" b"))},
		{`${none:-"$@"}`, pieces(q("a b"), cut, q(""), cut, q("c"))},
		{`${none:-$@}`, pieces(u("a b"), cut, u(""), cut, u("c"))},
		{`"${none:-$@}"`, pieces(q("a b"), cut, q(""), cut, q("c"))},
		{`${v+$*}`, pieces(u("a b"), cut, u(""), cut, u("c"))},
		{`"${v:+$*}"`, pieces(q("a b  c"))},
		{`${none-${none-${e:-$v}}}`, pieces(u("val"))},
		{`"${none-x${none-${e:-$v}}y}"`, pieces(q("x"), q("val"), q("y"))},
		{`${v+${e+${none+no}}}`, nil},
		{`${v+${e+${none-yes}}}`, pieces(u("yes"))},
	} {
		isPieces(t, full(), c.text, c.want...)
	}
}

// P11.2: what a parameter gets, and that one piece comes of it, Quoted as the parameter is.
func TestGive(t *testing.T) {
	for _, c := range []struct{ of, value string }{
		{``, ""},
		{`a`, "a"},
		{`a b`, "a b"},
		{`'a  b'`, "a  b"},
		{`$x`, " 1  2 "},
		{`"$x"$v`, " 1  2 val"},
		{`$none`, ""},
		{`$@`, "a b  c"},
		{`"$@"`, "a b  c"},
		{`$*`, "a b  c"},
		{`x"$@"y$@`, "xa b  cya b  c"},
		{`${none-q}`, "q"},
		{`a${e:+b}c`, "ac"},
	} {
		for _, op := range []string{"=", ":="} {
			s := full()
			isPieces(t, s, "${new"+op+c.of+"}", u(c.value))
			has(t, s, "new", c.value)
		}
	}
	for _, op := range []string{"=", ":="} {
		s := full()
		isPieces(t, s, `"${new`+op+`$@ $x}"`, q("a b  c  1  2 "))
		has(t, s, "new", "a b  c  1  2 ")
		isPieces(t, s, `"${new2`+op+`}"`, q(""))
		has(t, s, "new2", "")
	}
}

// P11.2: what is usable gets nothing, and what isn't asked for isn't done.
func TestNotDone(t *testing.T) {
	s := full()
	isPieces(t, s, `${e=new}${v=new}${v:=new}`, u(""), u("val"), u("val"))
	has(t, s, "e", "")
	has(t, s, "v", "val")
	isPieces(t, s, `${v-${a=1}}${v:=${b=1}}${none+${c=1}}${e:+${d=1}}${v?${f=1}}${e-${g?}}`, u("val"), u("val"), u("val"), u(""))
	lacks(t, s, "a", "b", "c", "d", "f", "g")
	isPieces(t, s, `${e:=new}$e`, u("new"), u("new"))
	has(t, s, "e", "new")
}

// P11.1, P11.2: from the left: what is given counts for what stands behind it, in other words, too, and not ahead of it.
func TestOrder(t *testing.T) {
	s := with()
	isPieces(t, s, `$a${a=1}$a`, u("1"), u("1"))
	isPieces(t, s, `${b-0}${b=2}${b-0}${b=3}`, u("0"), u("2"), u("2"), u("2"))
	isFields(t, s, `$c ${c=4} $c ${c+5}`, "4", "4", "5")
	isPieces(t, s, `${d=${d=6}7}$d`, u("67"), u("67"))
	isPieces(t, s, `${f=${g=8}$f$g}$f$g`, u("88"), u("88"), u("8"))
	isPieces(t, s, `${h-${h=9}}$h`, u("9"), u("9"))
	isPieces(t, s, `${a+${a:=no}${i=1}}${i+$i}`, u("1"), u("1"), u("1"))
}

// P11.2: what must be set, and what is told.
func TestUnset(t *testing.T) {
	for text, want := range map[string]string{
		`${none?}`:             "none: not set",
		`${none:?}`:            "none: not set",
		`${e:?}`:               "e: not set",
		`"${none?}"`:           "none: not set",
		`${none?''}`:           "none: ",
		`${none?$e}`:           "none: ",
		`${none?$none}`:        "none: ",
		`"${none?$none}"`:      "none: ",
		`${none?so}`:           "none: so",
		`${none? so  it  is }`: "none:  so  it  is ",
		`"${none?so 'it'}"`:    "none: so 'it'",
		`${none?$x$v}`:         "none:  1  2 val",
		`${none?"$@"y}`:        "none: a b  cy",
		`${none?${new=1}$new}`: "none: 11",
		`${9?}`:                "9: not set",
		`${!:?w}`:              "!: w",
		`a$v${none?}`:          "none: not set",
		`${none?}${other?}`:    "none: not set",
		`${none-${other?in}}`:  "other: in",
		`${v+${other?in}}`:     "other: in",
		`${new=a${other?in}}`:  "other: in",
		`${none?${other?in}}`:  "other: in",
		`${none?a${other?}}`:   "other: not set",
		`${none?${other=in}}`:  "none: in",
	} {
		fails(t, full(), text, unset(want))
	}
	isPieces(t, full(), `${e?w}${v?w}${v:?w}`, u(""), u("val"), u("val"))
}

// Type: faults are held against one another, and the zero one is none.
func TestFaults(t *testing.T) {
	if expand.Unset != 1 || expand.Large != 2 {
		t.Error("kinds:", expand.Unset, expand.Large)
	}
	_, a := expand.One(full(), readOne(t, "${none?w}"))
	_, b := expand.One(with(), readOne(t, `"${none:?$1w}"`))
	_, c := expand.One(with(), readOne(t, "${none?}"))
	_, d := expand.One(with(), readOne(t, "w"))
	if a != b || a == c || d != (expand.Fault{}) || c == d {
		t.Error(a, b, c, d)
	}
}

// P11.4: what was given stays, whatever fault comes behind it; what would be given behind a fault isn't.
func TestStays(t *testing.T) {
	for _, text := range []string{`${a=1}${none?}${b=2}`, `${a=1}${none?${c=3}}${b=2}`, `${a=1}$big$big.${b=2}`, `${a=1}${d=${none?}}${b=2}`, `${a=1}${d=$big$big.}${b=2}`, `${d=${a=1}${none?}}${b=2}`, `${none-${a=1}${none?}}${b=2}`, `${none?${a=1}$big$big$big}${b=2}`, `${a=1}$big$big${b=2}${d=3}`} {
		for range 3 {
			s := with()
			s.Set("big", strings.Repeat("x", api.MaxValue/2))
			if _, f := expand.Pieces(s, readOne(t, text)); f == none {
				t.Errorf("%q has no fault", text)
			}
			has(t, s, "a", "1")
			lacks(t, s, "b", "d", "none")
		}
	}
	s := with()
	isPieces(t, s, `${a=1}`, u("1"))
	fails(t, s, `${b=2}${none?${c=3}}`, unset("none: 3"))
	has(t, s, "b", "2")
	has(t, s, "c", "3")
	if l, f := expand.Fields(s, read(t, `${d=4} ${e=5}${none?} ${f=6}`)...); len(l) > 0 || f != unset("none: not set") {
		t.Error(l, f)
	}
	has(t, s, "d", "4")
	has(t, s, "e", "5")
	lacks(t, s, "f")
}

// P11.3: each word's fields, one word behind the other, and none put together.
func TestFields(t *testing.T) {
	isFields(t, full(), ``)
	for _, c := range []struct {
		text string
		want []string
	}{
		{`a b`, fields("a", "b")},
		{`$x $x`, fields("1", "2", "1", "2")},
		{`$x$x`, fields("1", "2", "1", "2")},
		{`$v $v`, fields("val", "val")},
		{`a$x"b"`, fields("a", "1", "2", "b")},
		{`"$x"`, fields(" 1  2 ")},
		{`$e $none $e`, nil},
		{`$e "$none" ''`, fields("", "")},
		{`'' $e`, fields("")},
		{`$@`, fields("a", "b", "c")},
		{`"$@" "$*"`, fields("a b", "", "c", "a b  c")},
		{`$* $@`, fields("a", "b", "c", "a", "b", "c")},
		{`x"$@"y z`, fields("xa b", "", "cy", "z")},
		{`x$@y`, fields("xa", "b", "cy")},
		{`${none-a b} "${none-a b}"`, fields("a", "b", "a b")},
		{`${none-a b}c`, fields("a", "bc")},
		{`${new=v w} "${new}"`, fields("v", "w", "v w")},
		{`${none-'a b'c d}`, fields("a bc", "d")},
	} {
		isFields(t, full(), c.text, c.want...)
	}
	if l, f := expand.Fields(full(), nil, api.Word{}, word.Of(""), nil); f != none || !slices.Equal(l, fields("")) {
		t.Error(l, f)
	}
}

// P11.3: layer 10's Join, with a blank in place of each Cut.
func TestOne(t *testing.T) {
	for text, want := range map[string]string{
		``: "", `''`: "", `$none`: "", `a'b'c`: "abc", `$x`: " 1  2 ", `"$x"$x`: " 1  2  1  2 ", `$@`: "a b  c", `"$@"`: "a b  c", `"$*"`: "a b  c", `x$@y"$@"`: "xa b  cya b  c", `${none-a  b}`: "a  b",
	} {
		if got, f := expand.One(full(), readOne(t, text)); got != want || f != none {
			t.Errorf("One of %q is %q, %v", text, got, f)
		}
	}
}
