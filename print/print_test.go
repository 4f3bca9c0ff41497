package print_test

import (
	"fmt"
	"testing"

	"deadfall/api"
	"deadfall/parse"
	"deadfall/print"
	"deadfall/tree"
	"deadfall/word"
)

func lit(s string) api.Word { return api.Word{{Kind: api.Lit, Text: s}} }

func par(name, op string, of ...api.Part) api.Word {
	return api.Word{{Kind: api.Param, Text: name, Op: op, Of: of}}
}

// marked is a parameter in double quotes.
func marked(name, op string, of ...api.Part) api.Word {
	return api.Word{{Kind: api.Param, Quoted: true, Text: name, Op: op, Of: of}}
}

// joined is one word of the parts of several.
func joined(l ...api.Word) api.Word {
	var w api.Word
	for _, x := range l {
		w = append(w, x...)
	}
	return w
}

// plain are words of one text each.
func plain(l ...string) []api.Word {
	var words []api.Word
	for _, s := range l {
		words = append(words, lit(s))
	}
	return words
}

func does(l ...api.Word) api.Node { return api.Node{Kind: api.Simple, Words: l} }

func cmd(l ...string) api.Node { return does(plain(l...)...) }

// sets gives names their values, by turns.
func sets(l ...any) api.Node {
	n := api.Node{Kind: api.Simple}
	for i := 0; i < len(l); i += 2 {
		n.Assigns = append(n.Assigns, api.Assign{Name: l[i].(string), Word: l[i+1].(api.Word)})
	}
	return n
}

// with is the simple command with these words.
func with(n api.Node, l ...api.Word) api.Node {
	n.Words = l
	return n
}

func of(kind int, kids ...api.Node) api.Node { return api.Node{Kind: kind, Kids: kids} }

func and(x, y api.Node) api.Node { return of(api.And, x, y) }

func or(x, y api.Node) api.Node { return of(api.Or, x, y) }

func not(n api.Node) api.Node { return of(api.Not, n) }

func list(kids ...api.Node) api.Node {
	return api.Node{Kind: api.List, Kids: kids, Beside: make([]bool, len(kids))}
}

// besides is a list in which all are beside.
func besides(kids ...api.Node) api.Node {
	n := list(kids...)
	for i := range n.Beside {
		n.Beside[i] = true
	}
	return n
}

func group(n api.Node) api.Node { return of(api.Group, n) }

func sub(n api.Node) api.Node { return of(api.Subshell, n) }

func each(name string, given bool, body api.Node, words ...api.Word) api.Node {
	return api.Node{Kind: api.For, Name: name, Given: given, Words: words, Kids: []api.Node{body}}
}

func choose(w api.Word, cases ...api.Case) api.Node {
	return api.Node{Kind: api.Choose, Words: []api.Word{w}, Cases: cases}
}

func entry(patterns []api.Word, body ...api.Node) api.Case {
	return api.Case{Patterns: patterns, Body: body}
}

func function(name string, kid api.Node) api.Node {
	return api.Node{Kind: api.Func, Name: name, Kids: []api.Node{kid}}
}

var a, b, c, d = cmd("a"), cmd("b"), cmd("c"), cmd("d")

// mixed is a list of four, of which the second and the third are beside.
func mixed() api.Node {
	n := list(a, b, c, d)
	n.Beside[1], n.Beside[2] = true, true
	return n
}

// brief is a value as a text that a reader can take in.
func brief(x any) string { return fmt.Sprintf("%.600q", fmt.Sprint(x)) }

// A written is a command, and how it has to be written.
type written struct {
	n api.Node
	s string
}

// checkText tells of a program that isn't written so, or isn't read again.
func checkText(t *testing.T, n api.Node, want string) {
	t.Helper()
	if !tree.Program(n) {
		t.Fatalf("%s is no program", brief(n))
	}
	kept := tree.Clone(n)
	got := print.Text(n)
	if got != want {
		t.Errorf("Text of %s is %.600q, not %.600q", brief(n), got, want)
	}
	if !tree.Same(n, kept) {
		t.Errorf("Text has changed %s into %s", brief(kept), brief(n))
	}
	if m, at, err := parse.Parse(got); at != 0 || err != api.OK || !tree.Same(m, n) {
		t.Errorf("Parse(%.600q), the Text of %s, is %s, %d, %d", got, brief(n), brief(m), at, err)
	}
	if s := print.Command(n); s != "" {
		t.Errorf("Command of the list %s is %.600q", brief(n), s)
	}
}

// checkCommands holds commands to their texts, each alone, and in a program.
func checkCommands(t *testing.T, l ...written) {
	t.Helper()
	for _, x := range l {
		if x.n.Kind == api.List || !tree.Right(x.n) {
			t.Fatalf("%s is no right command", brief(x.n))
		}
		kept := tree.Clone(x.n)
		if got := print.Command(x.n); got != x.s {
			t.Errorf("Command of %s is %.600q, not %.600q", brief(x.n), got, x.s)
		}
		if !tree.Same(x.n, kept) {
			t.Errorf("Command has changed %s into %s", brief(kept), brief(x.n))
		}
		if got := print.Text(x.n); got != "" {
			t.Errorf("Text of the command %s is %.600q", brief(x.n), got)
		}
		checkText(t, list(x.n), x.s+"\n")
		checkText(t, besides(x.n), x.s+" &\n")
		checkText(t, list(a, x.n, b), "a\n"+x.s+"\nb\n")
		checkText(t, besides(a, x.n, x.n), "a &\n"+x.s+" &\n"+x.s+" &\n")
	}
}

// P7.1, P7.3
func TestPrograms(t *testing.T) {
	checkText(t, list(), "")
	checkText(t, api.Node{Kind: api.List, Kids: []api.Node{}, Beside: []bool{}}, "")
	checkText(t, api.Node{Kind: api.List}, "")
	checkText(t, list(a), "a\n")
	checkText(t, besides(a), "a &\n")
	checkText(t, list(a, b, c), "a\nb\nc\n")
	checkText(t, besides(a, b, c), "a &\nb &\nc &\n")
	checkText(t, mixed(), "a\nb &\nc &\nd\n")
	checkText(t, besides(or(and(a, b), c), not(d)), "a && b || c &\n! d &\n")
	checkText(t, list(of(api.If, list(a), besides(b))), "if a; then b & fi\n")
}

// P7.2: a simple command, its assigns and its words.
func TestSimple(t *testing.T) {
	quoted := word.Of("a b")
	checkCommands(t,
		written{a, "a"},
		written{cmd("a", "b", "c"), "a b c"},
		written{cmd("a", "if", "}", "x=1", "!", "fi", "in", "="), "a if } x=1 ! fi in ="},
		written{does(quoted, quoted), "'a b' 'a b'"},
		written{does(word.Of(""), word.Of("it's"), word.Of("if")), `'' 'it'\''s' 'if'`},
		written{does(word.Of("if")), "'if'"},
		written{does(word.Of("x=1")), "'x=1'"},
		written{does(word.Of("#"), lit("a#"), word.Of("\n")), "'#' a# '\n'"},
		written{does(par("x", "")), "${x}"},
		written{does(par("@", "-", joined(lit("a b"), word.Of("}"), marked("y", ":?"))...)), `${@-a b'}'"${y:?}"}`},
		written{does(marked("x", ""), marked("x", ":=", word.Of("a\"}$'")...)), `"${x}" "${x:=a\"\}\$'}"`},
		written{does(joined(lit("a"), word.Of("b"), par("1", "+", lit(" ")...), marked("#", ""), lit("#"))), `a'b'${1+ }"${#}"#`},
		written{sets("x", lit("1")), "x=1"},
		written{sets("x", api.Word(nil)), "x="},
		written{sets("x", api.Word{}, "y", api.Word{}), "x= y="},
		written{sets("if", lit("#a"), "_1", lit("=")), "if=#a _1=="},
		written{sets("x", quoted, "y", par("z", "-"), "x", marked("z", "")), `x='a b' y=${z-} x="${z}"`},
		written{sets("x", word.Of("")), "x=''"},
		written{with(sets("x", lit("1")), plain("a")...), "x=1 a"},
		written{with(sets("x", api.Word(nil)), plain("a", "b")...), "x= a b"},
		written{with(sets("x", lit("1"), "y", lit("2")), plain("if", "x=1")...), "x=1 y=2 if x=1"},
		written{with(sets("x", lit("1")), word.Of("")), "x=1 ''"},
		written{cmd("1=a", "b"), "1=a b"},
		written{cmd("\x00\xff\r{}"), "\x00\xff\r{}"},
	)
}

// P7.2: and, or, not.
func TestChains(t *testing.T) {
	g := group(list(a))
	checkCommands(t,
		written{and(a, b), "a && b"},
		written{or(a, b), "a || b"},
		written{not(a), "! a"},
		written{and(or(and(a, b), c), d), "a && b || c && d"},
		written{or(and(or(a, b), c), d), "a || b && c || d"},
		written{and(not(a), not(b)), "! a && ! b"},
		written{or(not(a), b), "! a || b"},
		written{or(a, not(g)), "a || ! { a; }"},
		written{not(sub(list(not(a)))), "! (! a; )"},
		written{and(g, function("f", g)), "{ a; } && f() { a; }"},
		written{and(function("f", g), sub(besides(a))), "f() { a; } && (a & )"},
		written{not(function("f", sub(list(a)))), "! f() (a; )"},
		written{not(sets("x", lit("!"))), "! x=!"},
		written{group(list(and(a, b), or(not(c), d))), "{ a && b; ! c || d; }"},
		written{group(besides(and(a, b), not(c))), "{ a && b & ! c & }"},
	)
}

// P7.2: what has lists within, each list as it is where it stands.
func TestCompounds(t *testing.T) {
	for s, n := range map[string]api.Node{"a; ": list(a), "a & ": besides(a), "a; b; ": list(a, b), "a & b & ": besides(a, b), "a; b & c & d; ": mixed(), "{ a; b & c & d; }; ": list(group(mixed())), "(a & ) & ": besides(sub(besides(a)))} {
		checkCommands(t,
			written{group(n), "{ " + s + "}"},
			written{sub(n), "(" + s + ")"},
			written{of(api.If, n, list(b)), "if " + s + "then b; fi"},
			written{of(api.If, list(a), n), "if a; then " + s + "fi"},
			written{of(api.If, n, list(b), list(c)), "if " + s + "then b; else c; fi"},
			written{of(api.If, list(a), n, list(c)), "if a; then " + s + "else c; fi"},
			written{of(api.If, list(a), list(b), n), "if a; then b; else " + s + "fi"},
			written{of(api.While, n, list(b)), "while " + s + "do b; done"},
			written{of(api.While, list(a), n), "while a; do " + s + "done"},
			written{of(api.Until, n, list(b)), "until " + s + "do b; done"},
			written{of(api.Until, list(a), n), "until a; do " + s + "done"},
			written{each("i", false, n), "for i do " + s + "done"},
			written{each("i", true, n), "for i in; do " + s + "done"},
			written{choose(lit("a"), entry(plain("b"), n)), "case a in (b) " + s + ";; esac"},
			written{choose(lit("a"), entry(plain("b")), entry(plain("c"), n), entry(plain("d"))), "case a in (b) ;; (c) " + s + ";; (d) ;; esac"},
			written{function("f", group(n)), "f() { " + s + "}"},
			written{function("f", sub(n)), "f() (" + s + ")"},
		)
	}
}

// P7.2: an if in an else, which an elif would be, too.
func TestElse(t *testing.T) {
	inner := of(api.If, list(c), list(d))
	both := of(api.If, list(c), list(d), list(a))
	checkCommands(t,
		written{of(api.If, list(a), list(b), list(inner)), "if a; then b; else if c; then d; fi; fi"},
		written{of(api.If, list(a), list(b), besides(inner)), "if a; then b; else if c; then d; fi & fi"},
		written{of(api.If, list(a), list(b), list(both)), "if a; then b; else if c; then d; else a; fi; fi"},
		written{of(api.If, list(a), list(inner), list(both, b)), "if a; then if c; then d; fi; else if c; then d; else a; fi; b; fi"},
		written{of(api.If, list(inner), list(b)), "if if c; then d; fi; then b; fi"},
	)
}

// P7.2: for, and its words.
func TestFor(t *testing.T) {
	checkCommands(t,
		written{each("i", true, list(a), plain("b")...), "for i in b; do a; done"},
		written{each("i", true, list(a), lit("b"), word.Of("a b"), par("x", ""), marked("@", "")), `for i in b 'a b' ${x} "${@}"; do a; done`},
		written{each("_1", true, list(a), plain("do", "done", "in", "x=1", "if")...), "for _1 in do done in x=1 if; do a; done"},
		written{each("in", true, list(a), plain("in")...), "for in in in; do a; done"},
		written{each("do", false, list(a)), "for do do a; done"},
		written{each("in", true, list(a)), "for in in; do a; done"},
		written{each("if", false, list(a)), "for if do a; done"},
		written{each("i", true, list(each("j", false, besides(a))), word.Of("")), "for i in ''; do for j do a & done; done"},
	)
}

// P7.2: case, its word, and its cases.
func TestChoose(t *testing.T) {
	checkCommands(t,
		written{choose(lit("a")), "case a in esac"},
		written{choose(word.Of("")), "case '' in esac"},
		written{choose(lit("in")), "case in in esac"},
		written{choose(lit("esac"), entry(plain("esac", "in"))), "case esac in (esac|in) ;; esac"},
		written{choose(marked("x", "-"), entry(plain("*"), list(a))), `case "${x-}" in (*) a; ;; esac`},
		written{choose(joined(lit("x="), par("y", "")), entry(plain("[!a]?", "x=1", "b"), list(a, b))), "case x=${y} in ([!a]?|x=1|b) a; b; ;; esac"},
		written{choose(lit("a"), entry([]api.Word{word.Of("*"), par("x", ":-", word.Of("|")...), word.Of("")})), "case a in ('*'|${x:-'|'}|'') ;; esac"},
		written{choose(lit("a"), entry(plain("b"), list(a)), entry(plain("c"), besides(b)), entry(plain("d"))), "case a in (b) a; ;; (c) b & ;; (d) ;; esac"},
		written{choose(lit("a"), entry(plain("b"), list(choose(lit("b"), entry(plain("c"), list(d)))))), "case a in (b) case b in (c) d; ;; esac; ;; esac"},
	)
}

// P7.2: functions, of each kind of command.
func TestFunc(t *testing.T) {
	checkCommands(t,
		written{function("f", of(api.If, list(a), list(b))), "f() if a; then b; fi"},
		written{function("_9", of(api.While, list(a), list(b))), "_9() while a; do b; done"},
		written{function("F", of(api.Until, list(a), list(b))), "F() until a; do b; done"},
		written{function("iff", each("i", true, list(a))), "iff() for i in; do a; done"},
		written{function("f", choose(lit("a"))), "f() case a in esac"},
		written{function("f", group(list(function("g", group(list(function("h", sub(list(a)))))), b))), "f() { g() { h() (a; ); }; b; }"},
		written{function("echo", group(besides(function("f", sub(list(a)))))), "echo() { f() (a; ) & }"},
	)
}

// wrongs are commands that aren't right, or empty lists, of which nothing is written.
func wrongs() []api.Node {
	l := []api.Node{
		{}, {Kind: -1}, {Kind: 14}, {Kind: 1 << 40, Words: plain("a")}, {Kind: api.Simple}, cmd("if"), cmd("x=1"), cmd(""), cmd("a b"), cmd("#"), cmd("a", ""), does(nil), does(lit("a"), par("", "")),
		with(sets("x", lit("1")), lit("y=2")), sets("1", lit("a")), sets("", lit("a")), sets("x", lit("a b")),
		and(a, and(a, b)), or(a, list(b)), and(a, api.Node{}), of(api.And, a), of(api.Or, a, b, c), not(not(a)), not(and(a, b)), not(list(a)), of(api.Not), of(api.Not, a, b),
		of(api.If, list(a)), of(api.If, list(a), b), of(api.If, list(a), list()), of(api.If, list(a), list(b), list(c), list(d)), of(api.If, list(a), list(b), list()),
		of(api.While, list(a)), of(api.While, a, b), of(api.Until, list(), list(a)), of(api.Until, list(a), list(b), list(c)), of(api.Group), group(a), group(list()), sub(list()), sub(sub(list(a))), of(api.Subshell, list(a), list(b)),
		each("", true, list(a)), each("1", false, list(a)), each("i", false, list(a), lit("b")), each("i", true, list()), each("i", true, a), each("i", true, list(a), nil),
		choose(nil), {Kind: api.Choose}, {Kind: api.Choose, Words: plain("a", "b")}, choose(lit("a"), entry(nil)), choose(lit("a"), entry(plain("b"), a)), choose(lit("a"), entry(plain("b"), list())), choose(lit("a"), entry(plain("b"), list(c), list(d))), choose(lit("a"), entry(plain("b", ""))),
		function("if", group(list(a))), function("", group(list(a))), function("1", group(list(a))), function("f", a), function("f", list(a)), function("f", function("g", group(list(a)))), of(api.Func, group(list(a))),
		{Kind: api.Simple, Words: plain("a"), Name: "x"}, {Kind: api.Simple, Words: plain("a"), Given: true}, {Kind: api.Simple, Words: plain("a"), Kids: []api.Node{a}}, {Kind: api.Simple, Words: plain("a"), Beside: []bool{false}},
		{Kind: api.Group, Kids: []api.Node{list(a)}, Words: plain("a")}, {Kind: api.Group, Kids: []api.Node{list(a)}, Beside: []bool{false}}, {Kind: api.Not, Kids: []api.Node{a}, Cases: make([]api.Case, 1)},
	}
	deep := group(list(a))
	for range 200 {
		deep = group(list(deep))
	}
	return append(l, deep, does(deepWord(201)), sets("x", deepWord(201)))
}

// deepWord is a word in which parameters stand so deep.
func deepWord(deep int) api.Word {
	var w api.Word
	for range deep {
		w = par("x", "-", w...)
	}
	return w
}

// P7.1, P7.2: of what isn't right nothing is written, nor of what it stands in.
func TestOthers(t *testing.T) {
	check := func(l ...api.Node) {
		t.Helper()
		for _, n := range l {
			if s := print.Command(n); s != "" {
				t.Errorf("Command of %s is %.600q", brief(n), s)
			}
			if s := print.Text(n); s != "" {
				t.Errorf("Text of %s is %.600q", brief(n), s)
			}
		}
	}
	for _, n := range wrongs() {
		check(n, list(n), list(a, n), besides(n, a), and(a, n), or(n, a), not(n), group(list(n)), sub(besides(a, n)), of(api.If, list(a), list(b), list(n)), of(api.While, list(n), list(a)), each("i", true, list(n)), choose(lit("a"), entry(plain("b"), list(n))), function("f", group(list(n))))
	}
	check(
		api.Node{Kind: api.List, Kids: []api.Node{a}}, api.Node{Kind: api.List, Beside: []bool{true}}, api.Node{Kind: api.List, Kids: []api.Node{a}, Beside: []bool{false, false}}, api.Node{Kind: api.List, Kids: []api.Node{a, b}, Beside: []bool{false}},
		api.Node{Kind: api.List, Kids: []api.Node{a}, Beside: []bool{false}, Words: plain("a")}, api.Node{Kind: api.List, Kids: []api.Node{a}, Beside: []bool{false}, Name: "a"}, list(list(a)), list(list()), group(list(list(a))),
	)
}
