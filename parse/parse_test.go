package parse_test

import (
	"fmt"
	"strings"
	"testing"

	"deadfall/api"
	"deadfall/parse"
	"deadfall/tree"
	"deadfall/word"
)

func lit(s string) api.Word { return api.Word{{Kind: api.Lit, Text: s}} }

func par(name, op string, of ...api.Part) api.Word {
	return api.Word{{Kind: api.Param, Text: name, Op: op, Of: of}}
}

// plain are words of one text each.
func plain(l ...string) []api.Word {
	var words []api.Word
	for _, s := range l {
		words = append(words, lit(s))
	}
	return words
}

func cmd(l ...string) api.Node { return api.Node{Kind: api.Simple, Words: plain(l...)} }

func does(l ...api.Word) api.Node { return api.Node{Kind: api.Simple, Words: l} }

func sets(name string, value api.Word, words ...api.Word) api.Node {
	return api.Node{Kind: api.Simple, Assigns: []api.Assign{{Name: name, Word: value}}, Words: words}
}

func of(kind int, kids ...api.Node) api.Node { return api.Node{Kind: kind, Kids: kids} }

func and(x, y api.Node) api.Node { return of(api.And, x, y) }

func or(x, y api.Node) api.Node { return of(api.Or, x, y) }

func not(n api.Node) api.Node { return of(api.Not, n) }

func list(kids ...api.Node) api.Node {
	return api.Node{Kind: api.List, Kids: kids, Beside: make([]bool, len(kids))}
}

// beside is the list with those of its kids beside that are told by their numbers.
func beside(n api.Node, l ...int) api.Node {
	for _, i := range l {
		n.Beside[i] = true
	}
	return n
}

func group(kids ...api.Node) api.Node { return of(api.Group, list(kids...)) }

func sub(kids ...api.Node) api.Node { return of(api.Subshell, list(kids...)) }

func loop(name string, given bool, words []api.Word, kids ...api.Node) api.Node {
	return api.Node{Kind: api.For, Name: name, Given: given, Words: words, Kids: []api.Node{list(kids...)}}
}

func choose(w api.Word, cases ...api.Case) api.Node {
	return api.Node{Kind: api.Choose, Words: []api.Word{w}, Cases: cases}
}

func entry(patterns []api.Word, body ...api.Node) api.Case {
	return api.Case{Patterns: patterns, Body: body}
}

func function(name string, kid api.Node) api.Node {
	return api.Node{Kind: api.Func, Name: name, Kids: []api.Node{kid}}
}

var a, b, c, d = cmd("a"), cmd("b"), cmd("c"), cmd("d")

const reserved = "! { } if then else elif fi while until do done for in case esac"

// A program is a text, and what it has to be read as.
type program struct {
	s string
	n api.Node
}

// brief is a value as a text that a reader can take in.
func brief(x any) string { return fmt.Sprintf("%.600s", fmt.Sprint(x)) }

// checkProgram tells of a text that isn't read as that program.
func checkProgram(t *testing.T, s string, want api.Node) {
	t.Helper()
	n, at, err := parse.Parse(s)
	if err != api.OK || at != 0 || !tree.Same(n, want) {
		t.Errorf("Parse(%.200q) is %s, %d, %d, not %s", s, brief(n), at, err, brief(want))
	}
	if !tree.Program(n) {
		t.Errorf("Parse(%.200q) is no program: %s", s, brief(n))
	}
	if n, ok := parse.Action(s); !ok || !tree.Same(n, want) {
		t.Errorf("Action(%.200q) is %s, %v, not %s", s, brief(n), ok, brief(want))
	}
}

// checkPrograms holds each text to its program.
func checkPrograms(t *testing.T, l ...program) {
	t.Helper()
	for _, p := range l {
		checkProgram(t, p.s, p.n)
	}
}

// checkWrong tells of a text that isn't wrong at that place, in that way.
func checkWrong(t *testing.T, s string, at int, err api.Errno) {
	t.Helper()
	n, gotAt, gotErr := parse.Parse(s)
	if gotAt != at || gotErr != err || !tree.Same(n, api.Node{}) {
		t.Errorf("Parse(%.200q) is %s, %d, %d, not wrong at %d by %d", s, brief(n), gotAt, gotErr, at, err)
	}
	if n, ok := parse.Action(s); ok || !tree.Same(n, api.Node{}) {
		t.Errorf("Action(%.200q) is %s, %v", s, brief(n), ok)
	}
}

// checkAt tells of texts that aren't wrong at the place that is marked in them by a byte 126, which is no other thing in them.
func checkAt(t *testing.T, l ...string) {
	t.Helper()
	for _, s := range l {
		ahead, behind, marked := strings.Cut(s, "~")
		if !marked {
			t.Fatalf("%q has no place", s)
		}
		checkWrong(t, ahead+behind, len(ahead), api.ErrForm)
	}
}

// P6.1, P6.2: lists.
func TestLists(t *testing.T) {
	for _, s := range []string{"", " ", "\n", "\n\n \t\n", "#", "# a ; (", "#\n#\n", "\\\n", "\\\n\n"} {
		checkProgram(t, s, list())
		checkProgram(t, s+"\na", list(a))
		checkProgram(t, "a\n"+s, list(a))
		checkProgram(t, "a &\n"+s+"\nb", beside(list(a, b), 0))
	}
	checkPrograms(t,
		program{"a", list(a)}, program{"a;", list(a)}, program{"a\n", list(a)}, program{"a&", beside(list(a), 0)},
		program{"a ; ", list(a)}, program{"a & # b", beside(list(a), 0)}, program{"a b c", list(cmd("a", "b", "c"))},
		program{"a;b", list(a, b)}, program{"a;b;", list(a, b)}, program{"a\nb", list(a, b)},
		program{"a&b", beside(list(a, b), 0)}, program{"a&b&", beside(list(a, b), 0, 1)}, program{"a;b&c\nd&", beside(list(a, b, c, d), 1, 3)},
		program{"a;\nb", list(a, b)}, program{"a;\n\n\nb\n\n", list(a, b)}, program{"a&\n\nb", beside(list(a, b), 0)},
		program{"a\n\n\nb;\n", list(a, b)}, program{"a # x\n#y\nb", list(a, b)}, program{"a;\\\nb", list(a, b)},
		program{"a\\\nb c\\\n d", list(cmd("ab", "c", "d"))}, program{"a&&b&c||d;", beside(list(and(a, b), or(c, d)), 0)},
		program{"(a)&{ b;}&", beside(list(sub(a), group(b)), 0, 1)},
	)
	checkAt(t,
		"~;", "~&", "~;;", "~|", "~&&", "~||", "~)", "\n~;", "#\n~& a", "a; ~;", "a~;;", "a; ~; b", "a;~)", "a ~;; b", "a&~;", "a & ~& b", "a&~)", "a;~&",
		"a\n~;", "a\n~& b", "a\n~&& b", "a\n~|| b", "a;~&& b", "a&~|| b", "a;\n\n~; b", "a &\n~;", "a ~| b", "a ~|", "a~)", "a; ~)", "a (~b)", "a b~()", "a;b;c;~)", "a;\\\n~;",
	)
}

// P6.1, P6.2: `&&`, `||` and `!`.
func TestItems(t *testing.T) {
	checkPrograms(t,
		program{"a&&b", list(and(a, b))}, program{"a || b", list(or(a, b))}, program{"a&&\nb", list(and(a, b))}, program{"a ||# x\n\n b", list(or(a, b))},
		program{"a&&b&&c", list(and(and(a, b), c))}, program{"a&&b||c", list(or(and(a, b), c))}, program{"a||b&&c", list(and(or(a, b), c))}, program{"a||b||c&&d", list(and(or(or(a, b), c), d))},
		program{"!a", list(cmd("!a"))}, program{"! a", list(not(a))}, program{"! a b", list(not(cmd("a", "b")))}, program{"a ! &&b", list(and(cmd("a", "!"), b))}, program{"!\\\n a", list(not(a))},
		program{"! a && b", list(and(not(a), b))}, program{"a && ! b", list(and(a, not(b)))}, program{"! a||\n! b&&! c;", list(and(or(not(a), not(b)), not(c)))},
		program{"! { a; } && ! (b)", list(and(not(group(a)), not(sub(b))))}, program{"!(a)", list(not(sub(a)))}, program{"! f() { a; }", list(not(function("f", group(a))))},
		program{"! x=1", list(not(sets("x", lit("1"))))}, program{"'!' a", list(does(word.Of("!"), lit("a")))}, program{"a && f() { b; } || c", list(or(and(a, function("f", group(b))), c))},
	)
	checkAt(t,
		"a &&~", "a||~", "a&&\n\n~", "a && ~;", "a && ~&", "a && ~&& b", "a || ~|| b", "a && ~|| b", "a || \n~; b", "a &&~)", "a && ~then", "a || ~}", "a&&~;;", "a && b ||~", "a && ~| b",
		"!~", "! ~;", "! ~! a", "!~\na", "! ~&& a", "! ~then", "! ~}", "!~)", "a && !~", "a && ! ~! b", "a && !~\nb", "! ~in", "! ~esac", "! a ~) b", "! (a) ~b",
	)
}

// P6.1, P6.2: simple commands.
func TestSimple(t *testing.T) {
	two := sets("x", lit("1"), lit("a"), lit("z=3"))
	two.Assigns = append(two.Assigns, api.Assign{Name: "y"})
	quoted := func(name string) api.Part { return api.Part{Kind: api.Param, Quoted: true, Text: name} }
	checkPrograms(t,
		program{"x=1", list(sets("x", lit("1")))}, program{"x=", list(sets("x", nil))}, program{"x=1 y= a z=3", list(two)}, program{"x=1\ty=\\\n a z=3;", list(two)}, program{"x=1\na", list(sets("x", lit("1")), a)},
		program{"_9=y=z", list(sets("_9", lit("y=z")))}, program{"x=#a", list(sets("x", lit("#a")))}, program{"if=1", list(sets("if", lit("1")))}, program{"in= in", list(sets("in", nil, lit("in")))},
		program{"x='a b'$y", list(sets("x", append(word.Of("a b"), par("y", "")...)))}, program{"x=${y:=z} \"$@\"", list(sets("x", par("y", ":=", lit("z")...), api.Word{quoted("@")}))},
		program{"'x'=1", list(does(append(word.Of("x"), lit("=1")...)))}, program{"x\\=1", list(does(api.Word{lit("x")[0], word.Of("=")[0], lit("1")[0]}))}, program{"$x=1", list(does(append(par("x", ""), lit("=1")...)))},
		program{"1=2", list(cmd("1=2"))}, program{"=1", list(cmd("=1"))}, program{"x-=1 x=2", list(cmd("x-=1", "x=2"))}, program{"''", list(does(word.Of("")))}, program{"\"\"#", list(does(append(word.Of(""), lit("#")...)))},
		program{"a#b c", list(cmd("a#b", "c"))}, program{"{}", list(cmd("{}"))}, program{"[ a ]", list(cmd("[", "a", "]"))}, program{"\xff\x00 a", list(cmd("\xff\x00", "a"))},
		program{"a '\n' b", list(does(lit("a"), word.Of("\n"), lit("b")))}, program{"a \"$x $y\"", list(does(lit("a"), api.Word{quoted("x"), word.Of(" ")[0], quoted("y")}))},
	)
	checkAt(t, "x=1 ~(a)", "x= ~()", "x=1 a~()", "a=1~()", "'a'~()", "a$x~()", "a b ~( c )", "a ~) b", "x=1 ~;; b", "'if' a ~)", "a-b~() { c; }", "1~()", "x=1 ~| a")
}

// P6.1: a word that is Plain and Reserved is that word where a unit may begin, and nothing else there; elsewhere it is a word.
func TestReserved(t *testing.T) {
	for _, s := range strings.Fields(reserved) {
		w, x := lit(s), lit("x")
		checkPrograms(t,
			program{"x " + s, list(cmd("x", s))}, program{"x " + s + " " + s + ";", list(cmd("x", s, s))},
			program{"x=1 " + s, list(sets("x", lit("1"), w))}, program{"x=1 " + s + " a&", beside(list(sets("x", lit("1"), w, lit("a"))), 0)},
			program{"'" + s + "'", list(does(word.Of(s)))}, program{"\\" + s + " a", list(does(quotedFirst(s), lit("a")))},
			program{s + "''", list(does(append(lit(s), word.Of("")...)))}, program{s + "x", list(cmd(s + "x"))}, program{"x" + s, list(cmd("x" + s))},
			program{"for i in " + s + "\ndo a; done", list(loop("i", true, plain(s), a))}, program{"for i in x " + s + ";do a; done", list(loop("i", true, plain("x", s), a))},
			program{"case " + s + " in esac", list(choose(w))}, program{"case x in (" + s + ") a;; esac", list(choose(x, entry(plain(s), list(a))))},
			program{"case x in a|" + s + ") esac", list(choose(x, entry(plain("a", s))))}, program{"case x in (" + s + "|" + s + ") ;; esac", list(choose(x, entry(plain(s, s))))},
		)
		if s != "esac" {
			checkProgram(t, "case x in "+s+") a;; esac", list(choose(x, entry(plain(s), list(a)))))
			checkProgram(t, "case x in "+s+") a;; "+s+"|"+s+") esac", list(choose(x, entry(plain(s), list(a)), entry(plain(s, s)))))
		}
	}
	for _, s := range strings.Fields("then else elif fi do done in esac }") {
		checkAt(t,
			"~"+s, "~"+s+" a", "a; ~"+s, "a\n~"+s, "a & ~"+s+" b", "a && ~"+s, "! ~"+s, "~"+s+"()", "(a) ~"+s, "{ ~"+s+" a", "( ~"+s+" )", "if ~"+s, "if a; then ~"+s,
			"if a; then b; else ~"+s, "while ~"+s, "until a; do ~"+s, "for i do ~"+s, "f() ~"+s,
		)
	}
}

// quotedFirst is the word whose first byte is quoted.
func quotedFirst(s string) api.Word {
	w := word.Of(s[:1])
	if len(s) > 1 {
		w = append(w, lit(s[1:])...)
	}
	return w
}

// P6.1, P6.2: groups and subshells. What ends them needs nothing ahead of it that parts commands, where no command could go on with it.
func TestEnclosed(t *testing.T) {
	checkPrograms(t,
		program{"{ a;}", list(group(a))}, program{"{ a\n}", list(group(a))}, program{"{\n\na&\n}", list(of(api.Group, beside(list(a), 0)))}, program{"{ a;b & }", list(of(api.Group, beside(list(a, b), 1)))},
		program{"{ a };}", list(group(cmd("a", "}")))}, program{"{a }", list(cmd("{a", "}"))}, program{"{\\\n a;\\\n}", list(group(a))},
		program{"(a)", list(sub(a))}, program{"(\na\n)", list(sub(a))}, program{"(a;b)", list(sub(a, b))}, program{"(a&)", list(of(api.Subshell, beside(list(a), 0)))}, program{"(a})", list(sub(cmd("a}")))}, program{"(a }\n)", list(sub(cmd("a", "}")))},
		program{"((a))", list(sub(sub(a)))}, program{"{ { a;};}", list(group(group(a)))}, program{"{ (a) }", list(group(sub(a)))}, program{"{ { a; } }", list(group(group(a)))}, program{"({ a;})", list(sub(group(a)))}, program{"{(a)}", list(group(sub(a)))},
		program{"{ ! (a) }", list(group(not(sub(a))))}, program{"{ a && (b) }", list(group(and(a, sub(b))))}, program{"{ f() (a) }", list(group(function("f", sub(a))))}, program{"(a) && b", list(and(sub(a), b))}, program{"{ a; }||(b)", list(or(group(a), sub(b)))},
	)
	checkAt(t,
		"{~", "{ ~}", "{ ~;", "{\n\n~}", "{ a~", "{ a }~", "{ a }&~", "{ a; ~)", "{ a ~) }", "{ a; ~; }", "{ a~;; }", "{ a &~", "{ a; }}~", "{ a; } ~}", "{ a; } ~b", "{ a; } ~{ b; }", "{ a; }~(b)", "{ a; }~)", "{ (a) ~)", "{ a; ~do", "{ (a) ~fi }",
		"(~", "(~)", "( \n ~)", "(~;", "(a~", "(a;~", "(a; ~}", "(a~;;)", "(a) ~b", "(a)~(b)", "(a)~{", "(a)~)", "(a)~x=1", "((a)~", "((a) ~b)", "(a;~fi", "(a & ~& b)",
	)
}

// P6.1, P6.2: if.
func TestIf(t *testing.T) {
	x := of(api.If, list(a), list(b))
	y := of(api.If, list(a), list(b), list(c))
	chain := of(api.If, list(a), list(b), list(of(api.If, list(c), list(d), list(of(api.If, list(a, b), list(c))))))
	inner := of(api.If, list(c), list(d), list(a, b))
	checkPrograms(t,
		program{"if a;then b;fi", list(x)}, program{"if a\nthen b\nfi", list(x)}, program{"if\n\na;\nthen\n\nb\n\nfi", list(x)}, program{"if a&then b&fi", list(of(api.If, beside(list(a), 0), beside(list(b), 0)))},
		program{"if(a)then(b)fi", list(of(api.If, list(sub(a)), list(sub(b))))}, program{"if { a; } then { b; } else { c; } fi", list(of(api.If, list(group(a)), list(group(b)), list(group(c))))},
		program{"if a;then b;else c;fi", list(y)}, program{"if a\nthen\nb\nelse\n\nc\nfi", list(y)}, program{"if a;then b;else c& fi", list(of(api.If, list(a), list(b), beside(list(c), 0)))},
		program{"if a;then b;elif c;then d;elif a;b;then c;fi", list(chain)}, program{"if a;then b;else if c;then d;else if a\nb\nthen c;fi;fi;fi", list(chain)}, program{"if a;then b;elif\nc\nthen\nd;else if a;b;then c;fi fi", list(chain)},
		program{"if a;then b;elif c;then d;else a;b;fi", list(of(api.If, list(a), list(b), list(inner)))}, program{"if a;then b;else if c;then d;else a;b;fi&fi", list(of(api.If, list(a), list(b), beside(list(inner), 0)))},
		program{"if a;then b;else if c;then d;else a;b;fi; a;fi", list(of(api.If, list(a), list(b), list(inner, a)))}, program{"if (a) then (b) elif (c) then (d) fi", list(of(api.If, list(sub(a)), list(sub(b)), list(of(api.If, list(sub(c)), list(sub(d))))))},
		program{"if if a;then b;fi then if a;then b;fi fi", list(of(api.If, list(x), list(x)))}, program{"if a then;then b fi;fi", list(of(api.If, list(cmd("a", "then")), list(cmd("b", "fi"))))}, program{"! if a;then b;fi&& c", list(and(not(x), c))},
	)
	checkAt(t,
		"if~", "if ~;", "if ~then", "if a~", "if a; ~fi", "if a; ~else b", "if a; ~elif b", "if a; ~do b", "if a then b~", "if a~;; then b", "if a ~) then", "if (a) ~b", "if a; then~", "if a; then ~;", "if a; then ~fi",
		"if a; then b~", "if a; then b fi~", "if a; then b; ~then c", "if a; then b; ~done", "if a; then b; ~esac", "if a; then b; ~}", "if a; then b; ~)", "if a; then b; ~;;", "if a; then b; else~", "if a; then b; else ~fi", "if a; then b; else ~else",
		"if a; then b; else c; ~else d; fi", "if a; then b; else c; ~elif d; then a; fi", "if a; then b; else c; ~then", "if a; then b; else c~", "if a; then b; elif~", "if a; then b; elif ~then", "if a; then b; elif c~", "if a; then b; elif c; ~fi",
		"if a; then b; elif c; ~else d; fi", "if a; then b; elif c; then ~fi", "if a; then b; elif c; then d; fi; ~fi", "if a; then b; elif c; then d; ~then", "if a; then b; elif c; then d; else a; ~elif b", "if a; then b; fi ~c", "if a; then b; fi ~fi", "if a; then b; fi~(a)",
	)
}

// P6.1, P6.2: while and until.
func TestWhile(t *testing.T) {
	for s, kind := range map[string]int{"while": api.While, "until": api.Until} {
		x := of(kind, list(a), list(b))
		checkPrograms(t,
			program{s + " a;do b;done", list(x)}, program{s + "\na\ndo\n\nb\n\ndone", list(x)}, program{s + " a&do b;c&done", list(of(kind, beside(list(a), 0), beside(list(b, c), 1)))}, program{s + "(a)do(b)done", list(of(kind, list(sub(a)), list(sub(b))))},
			program{s + " a;b;do " + s + " a;do b;done done", list(of(kind, list(a, b), list(x)))}, program{s + " " + s + " a\ndo b\ndone do a do\ndone", list(of(kind, list(x), list(cmd("a", "do"))))}, program{s + " a;do b;done||c", list(or(x, c))},
		)
		checkAt(t,
			s+"~", s+" ~;", s+" ~do", s+" a~", s+" a do~", s+" a; ~done", s+" a; ~then", s+" a~;; do", s+" a; do~", s+" a; do ~done", s+" a; do ~;", s+" a; do b~", s+" a; do b; ~do", s+" a; do b; ~fi", s+" a; do b; ~}", s+" a; do b;~)",
			s+" a; do b; done ~c", s+" a; do b; done ~done", s+" (a) ~b", s+" (a) do (b) ~do",
		)
	}
}

// P6.1, P6.2: for.
func TestFor(t *testing.T) {
	x := loop("i", false, nil, a)
	checkPrograms(t,
		program{"for i do a;done", list(x)}, program{"for i;do a;done", list(x)}, program{"for i\ndo a\ndone", list(x)}, program{"for i;\n\ndo\n\na;\n\ndone", list(x)}, program{"for i\n\n\ndo(a)done", list(loop("i", false, nil, sub(a)))},
		program{"for i in;do a;done", list(loop("i", true, nil, a))}, program{"for i in\ndo a;done", list(loop("i", true, nil, a))}, program{"for i\n\nin\n\ndo a;done", list(loop("i", true, nil, a))}, program{"for i in;\n\ndo a;done", list(loop("i", true, nil, a))},
		program{"for i in x;do a;done", list(loop("i", true, plain("x"), a))}, program{"for i\nin x y z\n\ndo a;b\ndone", list(loop("i", true, plain("x", "y", "z"), a, b))}, program{"for i in x=1 do done;do a;done", list(loop("i", true, plain("x=1", "do", "done"), a))},
		program{"for i in 'a b' $x;\ndo a&done", list(api.Node{Kind: api.For, Name: "i", Given: true, Words: []api.Word{word.Of("a b"), par("x", "")}, Kids: []api.Node{beside(list(a), 0)}})},
		program{"for do do a;done", list(loop("do", false, nil, a))}, program{"for in do a;done", list(loop("in", false, nil, a))}, program{"for in in in in;do a;done", list(loop("in", true, plain("in", "in"), a))}, program{"for do in do;do a;done", list(loop("do", true, plain("do"), a))},
		program{"for done\ndo a;done", list(loop("done", false, nil, a))}, program{"for _9;do a;done", list(loop("_9", false, nil, a))}, program{"for i do for j do a;done done", list(loop("i", false, nil, loop("j", false, nil, a)))}, program{"! for i do a;done&&b", list(and(not(x), b))},
	)
	for _, s := range strings.Fields(reserved)[3:] {
		checkPrograms(t, program{"for " + s + " do a; done", list(loop(s, false, nil, a))}, program{"for " + s + "\nin " + s + "\ndo a; done", list(loop(s, true, plain(s), a))})
	}
	checkAt(t,
		"for~", "for ~;", "for~\ni do a; done", "for ~1", "for ~'i'", "for ~i'' do", "for ~$i", "for ~\"i\"", "for ~\\i", "for ~!", "for ~{ do", "for ~} in", "for ~i-j do", "for ~i=1", "for~(i)", "for i~", "for i ~a", "for i ~then", "for i ~'do'", "for i ~'in' a", "for i~& do", "for i~;; do",
		"for i; ~; do", "for i; ~in a; do b; done", "for i;\n~in a", "for i\n~; do", "for i\n\n~a", "for i; ~a", "for i;~", "for i in~", "for i in a~", "for i in a b do c~", "for i in a~& do", "for i in a~(b)", "for i in a~)", "for i in a~|b", "for i in ~&& a", "for i in a; ~b", "for i in a~;; do b", "for i in a; ~; do b",
		"for i in a\n~; do b", "for i in a; ~done", "for i in a;~", "for i in a\n~in", "for i do~", "for i do ~done", "for i do ~;", "for i do a~", "for i do a done~", "for i do a; ~do", "for i do a; ~fi", "for i do a; done ~b", "for i do (a) ~b", "for i do a~;; done", "for i do a; ~; done", "for i do a; done ~do",
	)
}

// P6.1, P6.2: case.
func TestChoose(t *testing.T) {
	x, y := lit("x"), plain("y")
	one := list(choose(x, entry(y, list(a))))
	none := list(choose(x, entry(y)))
	two := list(choose(x, entry(y, list(a)), entry(plain("z"), list(b))))
	checkPrograms(t,
		program{"case x in esac", list(choose(x))}, program{"case x\n\nin\n\nesac", list(choose(x))}, program{"case 'a b' in esac", list(choose(word.Of("a b")))}, program{"case in in esac", list(choose(lit("in")))}, program{"case x=1 in esac", list(choose(lit("x=1")))},
		program{"case x in y)a;;esac", one}, program{"case x in(y)a;;esac", one}, program{"case x\nin\n(y)\n\na\n;;\n\nesac", one}, program{"case x in y)a;esac", one}, program{"case x in y)a\nesac", one}, program{"case x in y)a;\n;;esac", one}, program{"case x in y)a;;\nesac", one},
		program{"case x in y)esac", none}, program{"case x in y);;esac", none}, program{"case x in(y)\n\nesac", none}, program{"case x in y)\n;;\nesac", none},
		program{"case x in y)a;;z)b;;esac", two}, program{"case x in y)a;;z)b;esac", two}, program{"case x in\n(y)a;;\n\n(z)b\nesac", two}, program{"case x in y)\na\n;;\nz)\nb\n;;\nesac", two}, program{"case x in (y)a;;z)b\n\n;;esac", two},
		program{"case x in y)a&esac", list(choose(x, entry(y, beside(list(a), 0))))}, program{"case x in y)a&;;esac", list(choose(x, entry(y, beside(list(a), 0))))}, program{"case x in y)a;b&c;;esac", list(choose(x, entry(y, beside(list(a, b, c), 1))))}, program{"case x in y)(a)esac", list(choose(x, entry(y, list(sub(a)))))},
		program{"case x in y)a esac;;esac", list(choose(x, entry(y, list(cmd("a", "esac")))))}, program{"case x in y)'esac';;esac", list(choose(x, entry(y, list(does(word.Of("esac"))))))}, program{"case x in 'esac')a;;\"esac\"|esac);;esac", list(choose(x, entry([]api.Word{word.Of("esac")}, list(a)), entry([]api.Word{word.Of("esac"), lit("esac")})))},
		program{"case x in y|z|*)a;;esac", list(choose(x, entry(plain("y", "z", "*"), list(a))))}, program{"case x in (y|'z'|$z);;(esac);;(a|esac)esac", list(choose(x, entry([]api.Word{lit("y"), word.Of("z"), par("z", "")}), entry(plain("esac")), entry(plain("a", "esac"))))},
		program{"case x in y)case x in y)a;;esac;;esac", list(choose(x, entry(y, one)))}, program{"case x in y)case x in y)a;;esac esac", list(choose(x, entry(y, one)))}, program{"case x in y)!(a)esac", list(choose(x, entry(y, list(not(sub(a))))))}, program{"case x in esac||a", list(or(choose(x), a))},
		program{"case x in y)f() { a; };;esac", list(choose(x, entry(y, list(function("f", group(a))))))}, program{"case x in y)x=1;;esac", list(choose(x, entry(y, list(sets("x", lit("1"))))))},
	)
	checkAt(t,
		"case~", "case ~;", "case~\nx in esac", "case~(x)", "case x~", "case x ~y", "case x~; in", "case x\n\n~", "case x\n~; in", "case x ~'in'", "case x ~esac", "case x in~", "case x in ~;", "case x in ~)", "case x in ~;;", "case x in ~|", "case x in ~&", "case x in\n\n~", "case x in esac ~a", "case x in esac ~esac",
		"case x in (~", "case x in (~)", "case x in (~\ny)", "case x in (~(y)", "case x in (~|y)", "case x in y~", "case x in y ~a", "case x in y ~esac", "case x in y~;;", "case x in y~\n)", "case x in y~(", "case x in (y ~y", "case x in y|~", "case x in y|~)", "case x in y~||z)", "case x in y|~\nz)", "case x in (y|esac~",
		"case x in y)~", "case x in y)~)", "case x in y) ~; esac", "case x in y) ~& esac", "case x in y)\n~;", "case x in y) ~fi", "case x in y) ~}", "case x in y) a~", "case x in y) a esac~", "case x in y) a; ~fi", "case x in y) a;~) esac", "case x in y) a;~", "case x in y) a\n~; esac", "case x in y) a & ~; esac",
		"case x in y) (a) ~z) esac", "case x in y) a;;~", "case x in y) a;;~;", "case x in y) a;;~;;", "case x in y) a;;\n~;;", "case x in y) a;; z~", "case x in y) a;; ~) esac", "case x in y) ;;~", "case x in y) ;; z ~z", "case x in y) a;; esac ~b", "case x in y) a; esac~)", "case x in y) a; esac ~z)", "case x in y) a\n\n~)",
	)
}

// P6.1, P6.2: functions.
func TestFunctions(t *testing.T) {
	x := list(function("f", group(a)))
	checkPrograms(t,
		program{"f() { a; }", x}, program{"f ( ) { a;}", x}, program{"f()\n\n{ a\n}", x}, program{"f\\\n(\\\n) # x\n{ a;}", x}, program{"f ()\n#x\n\n{\na;}", x}, program{"f()(a)", list(function("f", sub(a)))}, program{"f()if a;then b;fi", list(function("f", of(api.If, list(a), list(b))))},
		program{"f() while a;do b;done", list(function("f", of(api.While, list(a), list(b))))}, program{"f()\nuntil a;do b;done", list(function("f", of(api.Until, list(a), list(b))))}, program{"f() for i do a;done", list(function("f", loop("i", false, nil, a)))},
		program{"f() case x in esac", list(function("f", choose(lit("x"))))}, program{"f() { g() (a); };b", list(function("f", group(function("g", sub(a)))), b)}, program{"_9() { a; }&", beside(list(function("_9", group(a))), 0)}, program{"iff()(a)", list(function("iff", sub(a)))},
		program{"f() { a; } && g() { b; } || ! h() (c)", list(or(and(function("f", group(a)), function("g", group(b))), not(function("h", sub(c)))))}, program{"trap() { a; }", list(function("trap", group(a)))}, program{"f() { a; }\n g()(b)", list(function("f", group(a)), function("g", sub(b)))},
	)
	for _, s := range strings.Fields("if while until ! {") {
		checkAt(t, s+"(~)", s+" (~)", s+" ( ~) { a; }")
	}
	for _, s := range strings.Fields("then else elif fi do done in esac }") {
		checkAt(t, "~"+s+"() { a; }")
	}
	checkAt(t, "for~() { a; }", "case~() { a; }")
	checkAt(t,
		"f(~", "f(~\n)", "f(~a)", "f(~()", "f(~;", "f()~", "f()\n\n~", "f() ~a", "f() ~;", "f() ~&", "f() ~! { a; }", "f()(~)", "f() ~g() { a; }", "f() ~then", "f() ~}", "f() ~x=1", "f() ~)", "f() ~'{' a; }", "f() { a; } ~b", "f() { a; }~()", "f() { a; } ~{ b; }", "f()(a)~(b)", "f() {~", "f() { ~}", "f() (~)",
		"1~() { a; }", "f-g~() { a; }", "'f'~() { a; }", "\\f~() { a; }", "f''~() { a; }", "$f~()", "a f~() { a; }", "x=1 f~() { a; }", "x=~() { a; }", "é~()", "{ f(~a", "f() { a; } ~then", "! ~! f() { a; }",
	)
}
