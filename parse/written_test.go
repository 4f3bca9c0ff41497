package parse_test

import (
	"math/rand/v2"
	"slices"
	"strings"
	"testing"

	"deadfall/api"
	"deadfall/class"
	"deadfall/parse"
	"deadfall/tree"
	"deadfall/word"
)

// A maker makes programs, and writes them, as chance has it.
type maker struct{ chance *rand.Rand }

func (m maker) one(n int) bool { return m.chance.IntN(n) == 0 }

func pick[T any](m maker, l ...T) T { return l[m.chance.IntN(len(l))] }

// Words that may stand anywhere: the first 9 may begin a simple command, the first 10 may do so behind an assignment.
var (
	marked    = api.Part{Kind: api.Param, Quoted: true, Text: "y", Op: ":-", Of: word.Of("a }\"b")}
	someWords = []api.Word{
		lit("a"), lit("b"), word.Of("if"), par("x", "-", lit("b")...), word.Of("it's"), {marked}, append(lit("a#"), marked), word.Of(""), append(par("@", ""), lit("=1")...),
		lit("if"), lit("x=1"), lit("}"), lit("!"), lit("in"), lit("do"), lit("esac"), lit("x="), append(lit("x="), marked),
	}
	someValues = append([]api.Word{nil, lit("#a"), lit("#a")}, someWords...)
)

func (m maker) words(least, most int) []api.Word {
	var l []api.Word
	for range least + m.chance.IntN(most-least+1) {
		l = append(l, pick(m, someWords...))
	}
	return l
}

func (m maker) name() string { return pick(m, "f", "x", "_1", "A9z", "iff") }

func (m maker) simple() api.Node {
	n := api.Node{Kind: api.Simple}
	for m.one(4) {
		n.Assigns = append(n.Assigns, api.Assign{Name: pick(m, m.name(), "if", "in"), Word: pick(m, someValues...)})
	}
	switch {
	case len(n.Assigns) == 0:
		n.Words = append([]api.Word{pick(m, someWords[:9]...)}, m.words(0, 2)...)
	case m.one(2):
		n.Words = append([]api.Word{pick(m, someWords[:10]...)}, m.words(0, 2)...)
	}
	return n
}

// list has items in which compounds stand at most so deep.
func (m maker) list(least, deep int) api.Node {
	n := api.Node{Kind: api.List}
	for len(n.Kids) < least || m.one(3) {
		n.Kids = append(n.Kids, m.item(deep))
		n.Beside = append(n.Beside, m.one(4))
	}
	return n
}

func (m maker) item(deep int) api.Node {
	n := m.unit(deep)
	for m.one(4) {
		n = of(pick(m, api.And, api.Or), n, m.unit(deep))
	}
	return n
}

func (m maker) unit(deep int) api.Node {
	if m.one(6) {
		return not(m.command(deep))
	}
	return m.command(deep)
}

func (m maker) command(deep int) api.Node {
	switch {
	case deep == 0 || m.one(2):
		return m.simple()
	case m.one(7):
		return function(m.name(), m.compound(deep, m.list(1, deep-1)))
	}
	return m.compound(deep, m.list(1, deep-1))
}

// compound has that list somewhere within.
func (m maker) compound(deep int, body api.Node) api.Node {
	other := func() api.Node { return m.list(1, min(deep-1, 1)) }
	both := func() []api.Node {
		l := []api.Node{body, other()}
		m.chance.Shuffle(2, func(i, j int) { l[i], l[j] = l[j], l[i] })
		return l
	}
	switch pick(m, 6, 6, 7, 8, 9, 10, 11, 12) {
	case api.If:
		n := of(api.If, both()...)
		switch {
		case deep > 1 && m.one(3):
			n.Kids = append(n.Kids, list(m.compound(deep-1, m.list(1, deep-2))))
		case m.one(3):
			n.Kids = slices.Insert(n.Kids, m.chance.IntN(3), other())
		}
		return n
	case api.While, api.Until:
		return of(pick(m, api.While, api.Until), both()...)
	case api.For:
		n := api.Node{Kind: api.For, Name: pick(m, m.name(), "in", "do", "done"), Given: m.one(2), Kids: []api.Node{body}}
		if n.Given {
			n.Words = m.words(0, 3)
		}
		return n
	case api.Choose:
		n := choose(pick(m, someWords...), entry(m.words(1, 2), body))
		for m.one(2) {
			n.Cases = append(n.Cases, entry(m.words(1, 3)), entry(m.words(1, 2), other()))
			m.chance.Shuffle(len(n.Cases), func(i, j int) { n.Cases[i], n.Cases[j] = n.Cases[j], n.Cases[i] })
		}
		return n
	case api.Group:
		return of(api.Group, body)
	}
	return of(api.Subshell, body)
}

// program is one in which compounds stand at most so deep, as a rule.
func (m maker) program(deep int) api.Node { return m.list(0, deep) }

// A writer writes a program as one of the texts that it may have, and knows where the first compound begins that stands too deep.
type writer struct {
	maker
	strings.Builder
	last  string
	depth int
	deep  int
}

func (m maker) written(n api.Node) *writer {
	w := &writer{maker: m, deep: -1}
	w.lines()
	w.items(n, "")
	w.gap("")
	return w
}

func (w *writer) text() string { return w.String() }

// gap is written between tokens; it isn't empty where two would be read as one.
func (w *writer) gap(s string) {
	word := func(s string) bool { return s != "" && !class.Sign(s[0]) && s != "\n" }
	sign := func(s string) bool { return s != "" && strings.Contains(";&|", s[:1]) }
	if word(w.last) && word(s) || sign(w.last) && sign(s) || w.one(3) {
		w.WriteString(pick(w.maker, " ", " ", "\t ", " \\\n "))
	}
	if s == "" || s == "\n" {
		w.WriteString(pick(w.maker, "", "", "", " # a ; ' \" ( fi", "\\\n"))
	}
}

func (w *writer) token(l ...string) {
	for _, s := range l {
		w.gap(s)
		w.WriteString(s)
		w.last = s
	}
}

func (w *writer) words(l []api.Word) {
	for _, x := range l {
		w.token(word.Text(x))
	}
}

func (w *writer) lines() {
	for w.one(4) {
		w.token("\n")
	}
}

// enter writes the first token of a compound.
func (w *writer) enter(s string) {
	w.gap(s)
	w.depth++
	if w.depth > api.MaxDepth && w.deep < 0 {
		w.deep = w.Len()
	}
	w.WriteString(s)
	w.last = s
}

// items writes those of a list, ahead of a token that ends it.
func (w *writer) items(n api.Node, end string) {
	for i, k := range n.Kids {
		w.item(k)
		last := i == len(n.Kids)-1
		switch {
		case n.Beside[i]:
			w.token("&")
		case last && w.one(2) && (end == "" || class.Sign(end[0]) || !wordAtEnd(k)):
			continue
		default:
			w.token(pick(w.maker, ";", "\n"))
		}
		w.lines()
	}
}

// wordAtEnd: could a word go on with it?
func wordAtEnd(n api.Node) bool {
	switch n.Kind {
	case api.And, api.Or, api.Not:
		return wordAtEnd(n.Kids[len(n.Kids)-1])
	}
	return n.Kind == api.Simple
}

func (w *writer) body(n api.Node, end string) {
	w.lines()
	w.items(n, end)
}

func (w *writer) item(n api.Node) {
	switch n.Kind {
	case api.And, api.Or:
		w.item(n.Kids[0])
		w.token([]string{"&&", "||"}[n.Kind-api.And])
		w.lines()
		w.item(n.Kids[1])
	case api.Not:
		w.token("!")
		w.item(n.Kids[0])
	case api.Simple:
		for _, x := range n.Assigns {
			w.token(x.Name + "=" + word.Text(x.Word))
		}
		w.words(n.Words)
	case api.Func:
		w.token(n.Name, "(", ")")
		w.lines()
		w.compound(n.Kids[0])
	default:
		w.compound(n)
	}
}

func (w *writer) compound(n api.Node) {
	switch n.Kind {
	case api.If:
		w.branch("if", n)
		w.token("fi")
	case api.While, api.Until:
		w.enter([]string{"while", "until"}[n.Kind-api.While])
		w.body(n.Kids[0], "do")
		w.token("do")
		w.body(n.Kids[1], "done")
		w.token("done")
	case api.For:
		w.enter("for")
		w.token(n.Name)
		w.given(n)
		w.token("do")
		w.body(n.Kids[0], "done")
		w.token("done")
	case api.Choose:
		w.enter("case")
		w.words(n.Words)
		w.lines()
		w.token("in")
		w.lines()
		for i, x := range n.Cases {
			w.entry(x, i == len(n.Cases)-1)
		}
		w.token("esac")
	case api.Group:
		w.enter("{")
		w.body(n.Kids[0], "}")
		w.token("}")
	case api.Subshell:
		w.enter("(")
		w.body(n.Kids[0], ")")
		w.token(")")
	}
	w.depth--
}

func (w *writer) branch(first string, n api.Node) {
	w.enter(first)
	w.body(n.Kids[0], "then")
	w.token("then")
	if len(n.Kids) == 2 {
		w.body(n.Kids[1], "fi")
		return
	}
	w.body(n.Kids[1], "else")
	if last := n.Kids[2]; len(last.Kids) == 1 && last.Kids[0].Kind == api.If && !last.Beside[0] && w.one(2) {
		w.branch("elif", last.Kids[0])
		w.depth--
		return
	}
	w.token("else")
	w.body(n.Kids[2], "fi")
}

func (w *writer) given(n api.Node) {
	if !n.Given {
		w.token(pick(w.maker, nil, []string{";"})...)
		w.lines()
		return
	}
	w.lines()
	w.token("in")
	w.words(n.Words)
	w.token(pick(w.maker, ";", "\n"))
	w.lines()
}

func (w *writer) entry(x api.Case, last bool) {
	if first, _ := word.Plain(x.Patterns[0]); first == "esac" || w.one(2) {
		w.token("(")
	}
	for i, p := range x.Patterns {
		if i > 0 {
			w.token("|")
		}
		w.token(word.Text(p))
	}
	w.token(")")
	w.lines()
	end := ";;"
	if last && w.one(2) {
		end = "esac"
	}
	for _, k := range x.Body {
		w.items(k, end)
	}
	if end == ";;" {
		w.token(";;")
		w.lines()
	}
}

// P6.1, P6.2: programs, each written in one of its ways.
func TestWritten(t *testing.T) {
	m := maker{rand.New(rand.NewPCG(6, 3))}
	for i := range 30000 {
		if t.Failed() {
			return
		}
		n := m.program(i % 7)
		if !tree.Program(n) {
			t.Fatalf("%s is no program", brief(n))
		}
		checkProgram(t, m.written(n).text(), n)
	}
}

// P6.1: programs in which compounds stand about as deep as they may.
func TestWrittenDeep(t *testing.T) {
	m := maker{rand.New(rand.NewPCG(6, 4))}
	right, wrong := 0, 0
	for range 300 {
		if t.Failed() {
			return
		}
		n := m.list(1, 0)
		for deep := range 196 + m.chance.IntN(7) {
			n = list(m.compound(1+min(deep, 1), n))
			if m.one(6) {
				n.Kids[0] = pick(m, function("f", n.Kids[0]), not(n.Kids[0]), and(n.Kids[0], a), or(a, n.Kids[0]))
			}
		}
		w := m.written(n)
		if is := tree.Program(n); is != (w.deep < 0) {
			t.Fatalf("Program is %v of what the writer found too deep at %d", is, w.deep)
		}
		if w.deep < 0 {
			right++
			checkProgram(t, w.text(), n)
			continue
		}
		wrong++
		checkWrong(t, w.text(), w.deep, api.ErrDeep)
		checkWrong(t, w.text()+")", w.deep, api.ErrDeep)
		if _, at, err := parse.Parse(w.text()[:w.deep] + " |"); at != w.deep+1 || err != api.ErrForm {
			t.Errorf("what is wrong where one would stand too deep, at %d, is so at %d by %d", w.deep, at, err)
		}
	}
	if right < 50 || wrong < 50 {
		t.Errorf("%d are right, and %d wrong", right, wrong)
	}
}
