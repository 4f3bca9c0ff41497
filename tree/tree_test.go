package tree_test

import (
	"cmp"
	"fmt"
	"reflect"
	"slices"
	"strings"
	"testing"

	"deadfall/api"
	"deadfall/tree"
	"deadfall/word"
)

func lit(s string) api.Word { return api.Word{{Kind: api.Lit, Text: s}} }

func par(name, op string, of ...api.Part) api.Word {
	return api.Word{{Kind: api.Param, Text: name, Op: op, Of: of}}
}

// plain are words of one text each.
func plain(l ...string) []api.Word {
	var words []api.Word
	for _, s := range l {
		words = append(words, lit(s))
	}
	return words
}

func cmd(l ...string) api.Node { return api.Node{Kind: api.Simple, Words: plain(l...)} }

func sets(name string, w api.Word) api.Node {
	return api.Node{Kind: api.Simple, Assigns: []api.Assign{{Name: name, Word: w}}}
}

func of(kind int, kids ...api.Node) api.Node { return api.Node{Kind: kind, Kids: kids} }

func list(kids ...api.Node) api.Node {
	return api.Node{Kind: api.List, Kids: kids, Beside: make([]bool, len(kids))}
}

func beside(kid api.Node) api.Node {
	return api.Node{Kind: api.List, Kids: []api.Node{kid}, Beside: []bool{true}}
}

func loop(name string, given bool, words []api.Word, kids ...api.Node) api.Node {
	return api.Node{Kind: api.For, Name: name, Given: given, Words: words, Kids: kids}
}

func choose(words []api.Word, cases ...api.Case) api.Node {
	return api.Node{Kind: api.Choose, Words: words, Cases: cases}
}

func entry(patterns []api.Word, body ...api.Node) api.Case {
	return api.Case{Patterns: patterns, Body: body}
}

func function(name string, kids ...api.Node) api.Node {
	return api.Node{Kind: api.Func, Name: name, Kids: kids}
}

// a is a list with something to do.
func a() api.Node { return list(cmd("a")) }

// samples are right nodes, one of each kind, by their kinds; the one at 0 isn't right.
func samples() []api.Node {
	return []api.Node{
		{}, cmd("a"), of(api.And, cmd("a"), cmd("b")), of(api.Or, cmd("a"), cmd("b")), of(api.Not, cmd("a")), a(),
		of(api.If, a(), a()), of(api.While, a(), a()), of(api.Until, a(), a()), loop("i", true, plain("a"), a()), choose(plain("a"), entry(plain("b"), a())),
		of(api.Group, a()), of(api.Subshell, a()), function("f", of(api.Group, a())),
	}
}

// brief is a node as a text that a reader can take in.
func brief(n api.Node) string { return fmt.Sprintf("%.400s", fmt.Sprint(n)) }

// checkRight tells of a node that isn't right, or not wrong, as it should be.
func checkRight(t *testing.T, n api.Node, want bool) {
	t.Helper()
	if got := tree.Right(n); got != want {
		t.Errorf("Right of %s is %v", brief(n), got)
	}
	if got := tree.Program(n); got != (want && n.Kind == api.List) {
		t.Errorf("Program of %s is %v", brief(n), got)
	}
}

// checkWithin holds a node to be right, or not, and one that it stands in, too, if it is such as may stand in a list.
func checkWithin(t *testing.T, n api.Node, want bool) {
	t.Helper()
	checkRight(t, n, want)
	checkRight(t, list(cmd("a"), n), want)
	checkRight(t, of(api.Group, beside(n)), want)
	checkRight(t, choose(plain("a"), entry(plain("b")), entry(plain("c"), list(n))), want)
}

// P5.1: each kind is a right one of itself, and no other number is a kind.
func TestKinds(t *testing.T) {
	for kind, n := range samples() {
		checkRight(t, n, kind > 0)
		if kind > 0 && n.Kind != kind {
			t.Errorf("the sample %d is of kind %d", kind, n.Kind)
		}
		for _, none := range []int{0, -1, -kind - 1, 14, 15, 1 << 40, -1 << 63} {
			n.Kind = none
			checkWithin(t, n, false)
			checkWithin(t, api.Node{Kind: none}, false)
		}
	}
}

// P5.1
func TestSimple(t *testing.T) {
	quoted := word.Of("if")
	both := func(w api.Word, words ...api.Word) api.Node {
		n := sets("x", w)
		n.Words = words
		return n
	}
	for _, n := range []api.Node{
		cmd("a"), cmd("a", "if", "x=1", "!", "}"), cmd("=1"), cmd("1=2"), cmd("x"), cmd("IF"), cmd("iff"), cmd("[!]"),
		sets("x", nil), sets("x", api.Word{}), sets("if", lit("#")), sets("_9", lit("#a")), sets("x", lit("y=1")), sets("x", par("y", ":-")),
		both(nil, lit("if")), both(lit("1"), lit("a"), lit("y=1")), both(nil, lit("!"), lit("a")), both(nil, quoted),
		{Kind: api.Simple, Words: []api.Word{quoted}}, {Kind: api.Simple, Words: []api.Word{word.Of("x=1")}}, {Kind: api.Simple, Words: []api.Word{word.Of("")}},
		{Kind: api.Simple, Words: []api.Word{{{Kind: api.Lit, Text: "if"}, {Kind: api.Lit, Quoted: true}}}},
		{Kind: api.Simple, Words: []api.Word{{{Kind: api.Lit, Quoted: true, Text: "x"}, {Kind: api.Lit, Text: "=1"}}}},
		{Kind: api.Simple, Words: []api.Word{par("x", "")}},
		{Kind: api.Simple, Assigns: []api.Assign{{Name: "x"}, {Name: "x", Word: lit("1")}, {Name: "y"}}},
	} {
		checkWithin(t, n, true)
	}
	for _, n := range []api.Node{
		{Kind: api.Simple}, {Kind: api.Simple, Words: []api.Word{}, Assigns: []api.Assign{}},
		cmd("x="), cmd("x=1"), cmd("_=", "a"), cmd("a b"), cmd(""), cmd("#"), cmd("#a"), cmd("a", "#"), cmd("a", ""), cmd("a", "b", "$"),
		both(nil, lit("y=1")), both(nil, lit("y="), lit("a")), both(nil, lit("a"), lit("b;")), both(nil, nil), both(nil, lit("a"), nil),
		{Kind: api.Simple, Words: []api.Word{{{Kind: api.Lit, Text: "x="}, {Kind: api.Lit, Quoted: true, Text: "a"}}}},
		{Kind: api.Simple, Words: []api.Word{nil}}, {Kind: api.Simple, Words: []api.Word{par("", "")}}, {Kind: api.Simple, Words: []api.Word{par("1", "=")}},
		sets("", nil), sets("1", nil), sets("x-", nil), sets("@", lit("a")), sets("é", nil), sets("x=", nil),
		sets("x", lit("")), sets("x", lit("a b")), sets("x", lit("$")), sets("x", api.Word{{}}), sets("x", par("x y", "")), both(lit("'"), lit("a")),
		{Kind: api.Simple, Assigns: []api.Assign{{Name: "x"}, {Name: "1"}}}, {Kind: api.Simple, Assigns: []api.Assign{{Name: "x"}, {Name: "y", Word: lit(";")}}},
	} {
		checkWithin(t, n, false)
	}
	for _, s := range strings.Fields("! { } if then else elif fi while until do done for in case esac") {
		checkWithin(t, cmd(s), false)
		checkWithin(t, cmd(s, "a"), false)
		checkWithin(t, cmd("a", s), true)
		checkWithin(t, both(nil, lit(s)), true)
		checkWithin(t, api.Node{Kind: api.Simple, Words: []api.Word{word.Of(s)}}, true)
	}
}

// How deep parameters stand in words is told word by word.
func TestDeepWords(t *testing.T) {
	nested := func(deep int) api.Word {
		w := word.Of("a")
		for range deep {
			w = par("x", "-", w...)
		}
		return w
	}
	for _, deep := range []int{200, 201, 1 << 16} {
		w, right := nested(deep), deep <= 200
		for _, n := range []api.Node{
			sets("x", w), {Kind: api.Simple, Words: []api.Word{w}}, {Kind: api.Simple, Words: []api.Word{lit("a"), w}}, loop("i", true, []api.Word{w}, a()),
			choose([]api.Word{w}), choose(plain("a"), entry([]api.Word{lit("a"), w})),
		} {
			checkRight(t, n, right)
			checkRight(t, of(api.Group, list(n)), right)
			if !tree.Same(n, tree.Clone(n)) {
				t.Error("a node with a deep word isn't Same as its Clone")
			}
		}
	}
}

// P5.1: which kinds stand where.
func TestPlaces(t *testing.T) {
	const compounds = "6 7 8 9 10 11 12"
	const commands = "1 " + compounds + " 13"
	x := cmd("x")
	for _, place := range []struct {
		kinds string
		put   func(n api.Node) api.Node
	}{
		{"2 3 4 " + commands, func(n api.Node) api.Node { return of(api.And, n, x) }},
		{"2 3 4 " + commands, func(n api.Node) api.Node { return of(api.Or, n, x) }},
		{"4 " + commands, func(n api.Node) api.Node { return of(api.And, x, n) }},
		{"4 " + commands, func(n api.Node) api.Node { return of(api.Or, x, n) }},
		{commands, func(n api.Node) api.Node { return of(api.Not, n) }},
		{"2 3 4 " + commands, func(n api.Node) api.Node { return list(n) }},
		{"2 3 4 " + commands, func(n api.Node) api.Node { return beside(n) }},
		{"2 3 4 " + commands, func(n api.Node) api.Node { return list(n, x) }},
		{"2 3 4 " + commands, func(n api.Node) api.Node { return list(x, x, n) }},
		{"5", func(n api.Node) api.Node { return of(api.If, n, a()) }},
		{"5", func(n api.Node) api.Node { return of(api.If, a(), n) }},
		{"5", func(n api.Node) api.Node { return of(api.If, n, a(), a()) }},
		{"5", func(n api.Node) api.Node { return of(api.If, a(), n, a()) }},
		{"5", func(n api.Node) api.Node { return of(api.If, a(), a(), n) }},
		{"5", func(n api.Node) api.Node { return of(api.While, n, a()) }},
		{"5", func(n api.Node) api.Node { return of(api.While, a(), n) }},
		{"5", func(n api.Node) api.Node { return of(api.Until, n, a()) }},
		{"5", func(n api.Node) api.Node { return of(api.Until, a(), n) }},
		{"5", func(n api.Node) api.Node { return loop("i", false, nil, n) }},
		{"5", func(n api.Node) api.Node { return loop("i", true, plain("a"), n) }},
		{"5", func(n api.Node) api.Node { return choose(plain("a"), entry(plain("b"), n)) }},
		{"5", func(n api.Node) api.Node { return choose(plain("a"), entry(plain("b"), a()), entry(plain("b"), n)) }},
		{"5", func(n api.Node) api.Node { return of(api.Group, n) }},
		{"5", func(n api.Node) api.Node { return of(api.Subshell, n) }},
		{compounds, func(n api.Node) api.Node { return function("f", n) }},
	} {
		for kind, n := range samples() {
			right := slices.Contains(strings.Fields(place.kinds), fmt.Sprint(kind))
			checkRight(t, place.put(n), right)
			n.Beside = append(n.Beside, false)
			checkRight(t, place.put(n), false)
		}
		checkRight(t, place.put(list()), false)
		checkRight(t, place.put(list(list())), false)
		checkRight(t, place.put(api.Node{Kind: 14}), false)
	}
}

// P5.1: how many kids there are.
func TestKids(t *testing.T) {
	for kind, counts := range [][]int{{}, {0}, {2}, {2}, {1}, {0, 1, 2, 3, 4, 5}, {2, 3}, {2}, {2}, {1}, {0}, {1}, {1}, {1}} {
		for count := range 6 {
			n, kid := samples()[kind], a()
			switch kind {
			case api.And, api.Or, api.Not, api.List:
				kid = cmd("a")
			case api.Func:
				kid = of(api.Group, a())
			}
			n.Kids = slices.Repeat([]api.Node{kid}, count)
			if kind == api.List {
				n.Beside = make([]bool, count)
			}
			checkRight(t, n, slices.Contains(counts, count))
		}
	}
}

// P5.1: a list has as many in Beside as it has kids.
func TestBeside(t *testing.T) {
	for kids := range 5 {
		for size := range 6 {
			n := api.Node{Kind: api.List, Kids: slices.Repeat([]api.Node{cmd("a")}, kids)}
			for i := range size {
				n.Beside = append(n.Beside, i%2 == 0)
			}
			checkRight(t, n, kids == size)
			checkRight(t, of(api.Subshell, n), kids == size && kids > 0)
		}
	}
}

// P5.1: a node has nothing in the fields of which its kind says nothing; an empty list there is nothing.
func TestFields(t *testing.T) {
	own := []string{"", "Assigns Words", "Kids", "Kids", "Kids", "Kids Beside", "Kids", "Kids", "Kids", "Name Given Words Kids", "Words Cases", "Kids", "Kids", "Name Kids"}
	change := map[string]func(n *api.Node){
		"Name":    func(n *api.Node) { n.Name = "x" },
		"Given":   func(n *api.Node) { n.Given = true },
		"Assigns": func(n *api.Node) { n.Assigns = []api.Assign{{Name: "x"}} },
		"Words":   func(n *api.Node) { n.Words = plain("a") },
		"Kids":    func(n *api.Node) { n.Kids = []api.Node{cmd("a")} },
		"Beside":  func(n *api.Node) { n.Beside = []bool{false} },
		"Cases":   func(n *api.Node) { n.Cases = []api.Case{entry(plain("b"), a())} },
	}
	empty := map[string]func(n *api.Node){
		"Assigns": func(n *api.Node) { n.Assigns = make([]api.Assign, 0, 3) },
		"Words":   func(n *api.Node) { n.Words = make([]api.Word, 0, 3) },
		"Kids":    func(n *api.Node) { n.Kids = make([]api.Node, 0, 3) },
		"Beside":  func(n *api.Node) { n.Beside = make([]bool, 0, 3) },
		"Cases":   func(n *api.Node) { n.Cases = make([]api.Case, 0, 3) },
	}
	for kind, n := range samples()[1:] {
		full := n
		for field := range change {
			if slices.Contains(strings.Fields(own[kind+1]), field) {
				continue
			}
			wrong := n
			change[field](&wrong)
			checkRight(t, wrong, false)
			if empty[field] != nil {
				empty[field](&full)
			}
		}
		checkRight(t, full, true)
	}
	none := list()
	none.Kids, none.Beside = []api.Node{}, nil
	checkRight(t, none, true)
	checkRight(t, choose(plain("a"), api.Case{Patterns: plain("b"), Body: []api.Node{}}), true)
	checkRight(t, loop("i", false, []api.Word{}, a()), true)
}

// P5.1
func TestNames(t *testing.T) {
	for _, s := range []string{"f", "_", "a1", "_9A", "trap", "IF", "x", "doo"} {
		checkWithin(t, loop(s, false, nil, a()), true)
		checkWithin(t, function(s, of(api.If, a(), a())), true)
	}
	for _, s := range []string{"if", "then", "else", "elif", "fi", "while", "until", "do", "done", "for", "in", "case", "esac"} {
		checkWithin(t, loop(s, true, nil, a()), true)
		checkWithin(t, function(s, of(api.Group, a())), false)
	}
	for _, s := range []string{"", "1", "1a", "a-", "a b", "@", "!", "{", "}", "é", "a=", "a\x00", "a\n"} {
		checkWithin(t, loop(s, false, nil, a()), false)
		checkWithin(t, function(s, of(api.Group, a())), false)
	}
}

// P5.1
func TestFor(t *testing.T) {
	for _, l := range [][]api.Word{nil, {}, plain("if"), plain("a", "x=1", "do"), {word.Of(""), par("@", "")}} {
		checkWithin(t, loop("i", true, l, a()), true)
		checkWithin(t, loop("i", false, l, a()), len(l) == 0)
	}
	for _, l := range [][]api.Word{{nil}, plain(""), plain("#"), plain("a", "b c"), plain("a", "b", "("), {par("01", "")}} {
		checkWithin(t, loop("i", true, l, a()), false)
		checkWithin(t, loop("i", false, l, a()), false)
	}
}

// P5.1
func TestChoose(t *testing.T) {
	good := entry(plain("a"), a())
	for _, n := range []api.Node{
		choose(plain("a")), choose(plain("esac"), good), choose(plain("in"), good, good, entry(plain("*"))), choose([]api.Word{word.Of("")}, good), choose([]api.Word{par("x", "")}),
		choose(plain("a"), entry(plain("esac", "x=1", "!"))), choose(plain("a"), entry([]api.Word{word.Of("")}, a())), choose(plain("a"), entry(plain("a", "b"), list(cmd("a"), cmd("b")))),
	} {
		checkWithin(t, n, true)
	}
	for _, n := range []api.Node{
		choose(nil), choose([]api.Word{}), choose(nil, good), choose(plain("a", "b")), choose(plain("a", "b"), good), choose([]api.Word{nil}), choose(plain("")), choose(plain("#"), good), choose(plain("a b"), good),
		choose(plain("a"), api.Case{}), choose(plain("a"), entry(nil, a())), choose(plain("a"), entry([]api.Word{}, a())), choose(plain("a"), good, entry(nil)),
		choose(plain("a"), entry(plain("a"), a(), a())), choose(plain("a"), good, entry(plain("a"), a(), a(), a())),
		choose(plain("a"), entry(plain(""))), choose(plain("a"), entry(plain("a", "#"), a())), choose(plain("a"), entry([]api.Word{nil}, a())), choose(plain("a"), good, entry(plain("a", "b", "c)"))),
		choose(plain("a"), entry(plain("a"), cmd("a"))), choose(plain("a"), entry(plain("a"), list(cmd("if")))), choose(plain("a"), entry(plain("a"), list(cmd("if"))), good),
	} {
		checkWithin(t, n, false)
	}
}

// around is what puts a node one deeper, in each of the ways.
var around = []func(n api.Node) api.Node{
	func(n api.Node) api.Node { return of(api.If, list(n), a()) },
	func(n api.Node) api.Node { return of(api.If, a(), list(n)) },
	func(n api.Node) api.Node { return of(api.If, a(), a(), beside(n)) },
	func(n api.Node) api.Node { return of(api.While, list(n), a()) },
	func(n api.Node) api.Node { return of(api.While, a(), list(n)) },
	func(n api.Node) api.Node { return of(api.Until, list(n), a()) },
	func(n api.Node) api.Node { return of(api.Until, a(), list(n)) },
	func(n api.Node) api.Node { return loop("i", false, nil, list(n)) },
	func(n api.Node) api.Node { return choose(plain("a"), entry(plain("b"), list(n))) },
	func(n api.Node) api.Node {
		return choose(plain("a"), entry(plain("b")), entry(plain("c"), list(cmd("a"), n)))
	},
	func(n api.Node) api.Node { return of(api.Group, list(n)) },
	func(n api.Node) api.Node { return of(api.Subshell, list(cmd("a"), n, cmd("b"))) },
}

// level are what puts a node no deeper.
var level = []func(n api.Node) api.Node{
	func(n api.Node) api.Node { return of(api.And, n, cmd("a")) },
	func(n api.Node) api.Node { return of(api.Or, of(api.And, cmd("a"), n), cmd("b")) },
	func(n api.Node) api.Node { return of(api.And, cmd("a"), of(api.Not, n)) },
	func(n api.Node) api.Node { return of(api.Not, function("f", n)) },
	func(n api.Node) api.Node { return function("f", n) },
}

// P5.1: how deep commands stand, each way alone, and all of them in turn.
func TestDeep(t *testing.T) {
	each := func(ways []func(api.Node) api.Node) {
		n := cmd("a")
		for deep := 1; deep <= 205; deep++ {
			n = ways[deep%len(ways)](n)
			checkRight(t, n, deep <= 200)
			for _, same := range level {
				checkRight(t, same(n), deep <= 200)
			}
			checkRight(t, list(cmd("a"), n), deep <= 200)
			checkRight(t, list(function("f", n)), deep <= 200)
			checkRight(t, of(api.Group, list(of(api.Not, n))), deep < 200)
		}
	}
	for _, way := range around {
		each([]func(api.Node) api.Node{way})
	}
	each(around)
}

// P5.1: a function makes nothing in it deeper, but stands itself as deep as its place is.
func TestDeepFunctions(t *testing.T) {
	n := cmd("a")
	for deep := 1; deep <= 205; deep++ {
		n = function("f", of(api.Group, list(n)))
		checkRight(t, n, deep <= 200)
		checkRight(t, list(n), deep <= 200)
	}
	for _, inner := range []api.Node{cmd("a"), of(api.Not, cmd("a")), of(api.Group, a()), function("f", of(api.Group, a())), of(api.Not, function("f", of(api.While, a(), a())))} {
		n := inner
		for range 199 {
			n = of(api.Subshell, list(n))
		}
		checkRight(t, n, true)
		n = of(api.Subshell, list(n))
		checkRight(t, n, inner.Kind == api.Simple || inner.Kind == api.Not && inner.Kids[0].Kind == api.Simple)
		checkRight(t, function("f", n), tree.Right(n))
		checkRight(t, of(api.Subshell, list(n)), false)
	}
}

// P5.1: what counts for no depth may be nested as it comes; what counts is wrong, however much there is of it.
func TestVeryDeep(t *testing.T) {
	const much = 1<<16 - 1
	chain, groups, nots := cmd("a"), cmd("a"), cmd("a")
	for range much {
		chain, groups, nots = of(api.And, chain, cmd("b")), of(api.Group, groups), of(api.Not, nots)
	}
	checkRight(t, chain, true)
	checkRight(t, list(chain), true)
	for _, n := range []api.Node{groups, nots} {
		checkRight(t, n, false)
		checkRight(t, list(n), false)
	}
	for n, size := range map[*api.Node]int{&chain: 2*much + 1, &groups: much + 1, &nots: much + 1} {
		if got := tree.Size(*n); got != size {
			t.Errorf("Size of a deep node is %d, not %d", got, size)
		}
		if c := tree.Clone(*n); !tree.Same(*n, c) || tree.Same(*n, c.Kids[0]) {
			t.Error("the Clone of a deep node isn't Same, or its kid is")
		}
	}
	wide := list(slices.Repeat([]api.Node{of(api.Group, a())}, 100000)...)
	checkRight(t, wide, true)
	if tree.Size(wide) != 300001 || !tree.Same(wide, tree.Clone(wide)) {
		t.Errorf("Size of a wide node is %d, or its Clone isn't Same", tree.Size(wide))
	}
	wide.Kids[99999] = groups
	checkRight(t, wide, false)
}

// differing are nodes, no two of which are the same, right ones and wrong ones.
func differing() []api.Node {
	l := alone()
	for _, n := range alone() {
		l = append(l, of(api.Until, n))
	}
	for _, n := range alone() {
		l = append(l, choose(nil, entry(nil, n)))
	}
	for _, n := range alone() {
		l = append(l, choose(nil, api.Case{}, entry(nil, api.Node{}, n)))
	}
	return l
}

// full is a node with something in each field.
func full() api.Node {
	n := function("x", of(api.Group, a()))
	n.Given, n.Assigns, n.Words, n.Beside = true, []api.Assign{{Name: "x", Word: lit("1")}}, plain("a", "b"), []bool{true, false}
	n.Cases = []api.Case{entry(plain("c"), a(), cmd("b"))}
	return n
}

// alone are those of the differing ones that aren't made of others.
func alone() []api.Node {
	l := append(samples(), full())
	for kind := 14; kind < 17; kind++ {
		l = append(l, api.Node{Kind: kind}, api.Node{Kind: -kind})
	}
	for _, change := range []func(n *api.Node){
		func(n *api.Node) { n.Kind = api.For }, func(n *api.Node) { n.Name = "" }, func(n *api.Node) { n.Name = "X" }, func(n *api.Node) { n.Given = false },
		func(n *api.Node) { n.Assigns = nil }, func(n *api.Node) { n.Assigns[0].Name = "y" }, func(n *api.Node) { n.Assigns[0].Word = nil }, func(n *api.Node) { n.Assigns[0].Word[0].Quoted = true },
		func(n *api.Node) { n.Assigns = append(n.Assigns, api.Assign{}) }, func(n *api.Node) { n.Assigns = append(n.Assigns, n.Assigns[0]) },
		func(n *api.Node) { n.Words = nil }, func(n *api.Node) { n.Words = n.Words[:1] }, func(n *api.Node) { n.Words = n.Words[1:] }, func(n *api.Node) { n.Words = append(n.Words, nil) },
		func(n *api.Node) { slices.Reverse(n.Words) }, func(n *api.Node) { n.Words[1] = word.Of("b") }, func(n *api.Node) { n.Words[1] = par("b", "") }, func(n *api.Node) { n.Words = append(n.Words[:1], par("b", "-", lit("c")...)) },
		func(n *api.Node) { n.Words = append(n.Words[:1], par("b", "-", lit("d")...)) },
		func(n *api.Node) { n.Kids = nil }, func(n *api.Node) { n.Kids[0] = api.Node{} }, func(n *api.Node) { n.Kids = append(n.Kids, api.Node{}) }, func(n *api.Node) { n.Kids[0].Kids[0].Beside[0] = true },
		func(n *api.Node) { n.Kids[0].Kids[0].Kids[0].Words[0][0].Text = "b" }, func(n *api.Node) { n.Kids[0].Name = "a" },
		func(n *api.Node) { n.Beside = nil }, func(n *api.Node) { n.Beside = n.Beside[:1] }, func(n *api.Node) { n.Beside[1] = true }, func(n *api.Node) { n.Beside[0] = false }, func(n *api.Node) { slices.Reverse(n.Beside) },
		func(n *api.Node) { n.Cases = nil }, func(n *api.Node) { n.Cases[0].Patterns = nil }, func(n *api.Node) { n.Cases[0].Patterns[0] = word.Of("c") }, func(n *api.Node) { n.Cases[0].Patterns = append(n.Cases[0].Patterns, nil) },
		func(n *api.Node) { n.Cases[0].Body = nil }, func(n *api.Node) { n.Cases[0].Body = n.Cases[0].Body[:1] }, func(n *api.Node) { n.Cases[0].Body[0].Kids[0].Words = plain("a", "a") }, func(n *api.Node) { n.Cases[0].Body[0].Beside[0] = true },
		func(n *api.Node) { n.Cases = append(n.Cases, api.Case{}) }, func(n *api.Node) { n.Cases = append(n.Cases, entry(plain("c"), a())) },
	} {
		n := full()
		change(&n)
		l = append(l, n)
	}
	return l
}

// P5.2
func TestSame(t *testing.T) {
	l, again := differing(), differing()
	for i := range l {
		for j := range again {
			if got := tree.Same(l[i], again[j]); got != (i == j) {
				t.Errorf("Same of the nodes %d and %d is %v", i, j, got)
			}
		}
		if !reflect.DeepEqual(l[i], again[i]) {
			t.Errorf("Same has changed the node %d", i)
		}
	}
}

// P5.2: a list that is nil, and one that is empty, are one.
func TestSameEmpty(t *testing.T) {
	none := api.Node{Kind: 3, Assigns: []api.Assign{}, Words: []api.Word{}, Kids: []api.Node{}, Beside: []bool{}, Cases: []api.Case{}}
	inner := api.Node{Assigns: []api.Assign{{Word: api.Word{}}}, Words: []api.Word{{}}, Kids: []api.Node{none}, Cases: []api.Case{{Patterns: []api.Word{}, Body: []api.Node{}}}}
	bare := api.Node{Assigns: []api.Assign{{}}, Words: []api.Word{nil}, Kids: []api.Node{{Kind: 3}}, Cases: []api.Case{{}}}
	if !tree.Same(none, api.Node{Kind: 3}) || !tree.Same(api.Node{Kind: 3}, none) || !tree.Same(inner, bare) || !tree.Same(bare, inner) {
		t.Error("nodes aren't Same whose lists are nil here and empty there")
	}
	if !tree.Same(tree.Clone(inner), inner) || !tree.Same(tree.Clone(inner), bare) || !tree.Same(tree.Clone(bare), inner) {
		t.Error("a Clone isn't Same whose lists are nil here and empty there")
	}
}

// P5.2
func TestSize(t *testing.T) {
	for kind, want := range []int{1, 1, 3, 3, 2, 2, 5, 5, 5, 3, 3, 3, 3, 4} {
		if got := tree.Size(samples()[kind]); got != want {
			t.Errorf("Size of the sample %d is %d, not %d", kind, got, want)
		}
	}
	b := cmd("b", "c", "d")
	for _, c := range []struct {
		size int
		n    api.Node
	}{
		{1, api.Node{Kind: -1}}, {1, list()}, {1, sets("x", par("y", "-", lit("z")...))}, {1, choose(plain("a", "b"), entry(plain("c", "d")), api.Case{})},
		{4, of(api.Simple, b, b, b)}, {7, of(99, of(0, b, b), of(api.List, b, b))}, {4, choose(nil, entry(nil, b, b), entry(nil, b))},
		{7, api.Node{Kids: []api.Node{b, choose(nil, entry(nil, a()))}, Cases: []api.Case{entry(plain("a")), entry(nil, b), entry(nil, b), {}}}},
		{7, list(a(), choose(plain("a"), entry(plain("b"), a()), entry(plain("b"))), cmd("c"))}, {4, api.Node{Beside: make([]bool, 9), Kids: []api.Node{{}, {}, {}}}},
	} {
		if got := tree.Size(c.n); got != c.size {
			t.Errorf("Size of %s is %d, not %d", brief(c.n), got, c.size)
		}
	}
}

// lists are all lists of a value, with what room is spare.
func lists(v reflect.Value) []reflect.Value {
	var l []reflect.Value
	switch v.Kind() {
	case reflect.Slice:
		l = append(l, v.Slice(0, v.Cap()))
		for i := range v.Len() {
			l = append(l, lists(v.Index(i))...)
		}
	case reflect.Struct:
		for i := range v.NumField() {
			l = append(l, lists(v.Field(i))...)
		}
	}
	return l
}

// A room is memory that a list has.
type room struct{ from, to uintptr }

// rooms are those of all lists of a node.
func rooms(n api.Node) []room {
	var l []room
	for _, v := range lists(reflect.ValueOf(n)) {
		if size := uintptr(v.Len()) * v.Type().Elem().Size(); size > 0 {
			l = append(l, room{v.Pointer(), v.Pointer() + size})
		}
	}
	return l
}

// scribble writes over all lists of a node.
func scribble(n api.Node) {
	for _, v := range lists(reflect.ValueOf(n)) {
		for i := range v.Len() {
			v.Index(i).SetZero()
		}
	}
}

// checkApart tells of lists of an answer that share memory, with each other or with what was handed in.
func checkApart(t *testing.T, answer, given api.Node) {
	t.Helper()
	own, others := rooms(answer), rooms(given)
	slices.SortFunc(own, func(a, b room) int { return cmp.Compare(a.from, b.from) })
	for i, x := range own {
		if i > 0 && own[i-1].to > x.from {
			t.Errorf("two lists of the Clone of %s share memory", brief(given))
		}
		if slices.ContainsFunc(others, func(y room) bool { return x.from < y.to && y.from < x.to }) {
			t.Errorf("the Clone of %s shares memory with it", brief(given))
		}
	}
}

// roomy is a node whose lists have spare room, and some of which are one and the same.
func roomy() api.Node {
	of := append(make([]api.Part, 0, 5), lit("a")[0], par("y", "-", par("z", "-", word.Of("b")...)...)[0])
	w := append(make(api.Word, 0, 7), par("x", "-", of...)[0], par("x", "+", of...)[0])
	words := append(make([]api.Word, 0, 4), w, w, nil, api.Word{})
	flags := append(make([]bool, 0, 3), true, false)
	assigns := append(make([]api.Assign, 0, 6), api.Assign{Name: "x", Word: w}, api.Assign{Name: "y", Word: w}, api.Assign{})
	simple := api.Node{Kind: api.Simple, Name: "x", Given: true, Assigns: assigns, Words: words, Beside: flags}
	kids := append(make([]api.Node, 0, 9), simple, simple, api.Node{Kind: api.List, Kids: []api.Node{simple}, Beside: flags})
	cases := append(make([]api.Case, 0, 3), api.Case{Patterns: words, Body: kids}, api.Case{Patterns: words[:2], Body: kids[1:]}, api.Case{})
	return api.Node{Kind: api.If, Name: "n", Given: true, Assigns: assigns, Words: words, Kids: append(kids, api.Node{Kind: 77, Cases: cases, Kids: kids}), Beside: flags, Cases: cases}
}

// P5.2: a Clone is new memory, and nothing of what was handed in is changed.
func TestClone(t *testing.T) {
	for i, n := range append(differing(), roomy()) {
		same := append(differing(), roomy())[i]
		c := tree.Clone(n)
		if !tree.Same(c, n) || !tree.Same(n, c) || tree.Size(c) != tree.Size(n) || tree.Right(c) != tree.Right(n) {
			t.Errorf("Clone of %s is %s", brief(n), brief(c))
		}
		checkApart(t, c, n)
		checkApart(t, tree.Clone(n), c)
		scribble(c)
		if !reflect.DeepEqual(n, same) {
			t.Errorf("what is written into the Clone %d stands in what was handed in", i)
		}
		c = tree.Clone(n)
		scribble(n)
		if !tree.Same(c, same) {
			t.Errorf("what is written into what was handed in stands in the Clone %d", i)
		}
	}
}

// P1, P5: no call changes what it is given.
func TestUnchanged(t *testing.T) {
	l := append(differing(), roomy())
	for i, n := range append(differing(), roomy()) {
		tree.Right(n)
		tree.Program(n)
		tree.Same(n, n)
		tree.Size(n)
		tree.Clone(n)
		if !reflect.DeepEqual(n, l[i]) {
			t.Errorf("the node %d has been changed into %s", i, brief(n))
		}
	}
}
