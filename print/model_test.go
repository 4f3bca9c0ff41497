package print_test

import (
	"math/rand/v2"
	"slices"
	"strings"
	"testing"

	"deadfall/api"
	"deadfall/parse"
	"deadfall/print"
	"deadfall/tree"
	"deadfall/word"
)

// What the chapter says of kinds, once more: a form for each, in which a number stands for a kid, N for the name, and W for the words with a blank ahead of each.
func form(n api.Node) string {
	switch n.Kind {
	case api.And:
		return "0 && 1"
	case api.Or:
		return "0 || 1"
	case api.Not:
		return "! 0"
	case api.If:
		return []string{"if 0then 1fi", "if 0then 1else 2fi"}[len(n.Kids)-2]
	case api.While:
		return "while 0do 1done"
	case api.Until:
		return "until 0do 1done"
	case api.For:
		if n.Given {
			return "for N inW; do 0done"
		}
		return "for N do 0done"
	case api.Choose:
		return "caseW in " + strings.Repeat("C", len(n.Cases)) + "esac"
	case api.Group:
		return "{ 0}"
	case api.Subshell:
		return "(0)"
	}
	return "N() 0"
}

// modelCommand is what Command has to answer of a right command.
func modelCommand(n api.Node) string {
	if n.Kind == api.Simple {
		return modelSimple(n)
	}
	cases := n.Cases
	var s strings.Builder
	for _, c := range []byte(form(n)) {
		switch {
		case c >= '0' && c <= '2':
			s.WriteString(modelKid(n.Kids[c-'0']))
		case c == 'N':
			s.WriteString(n.Name)
		case c == 'W':
			s.WriteString(strings.Join(append([]string{""}, texts(n.Words)...), " "))
		case c == 'C':
			s.WriteString(modelCase(cases[0]))
			cases = cases[1:]
		default:
			s.WriteByte(c)
		}
	}
	return s.String()
}

func modelKid(n api.Node) string {
	if n.Kind != api.List {
		return modelCommand(n)
	}
	s := ""
	for i, k := range n.Kids {
		s += modelCommand(k) + map[bool]string{true: " & ", false: "; "}[n.Beside[i]]
	}
	return s
}

func modelSimple(n api.Node) string {
	var l []string
	for _, x := range n.Assigns {
		l = append(l, x.Name+"="+word.Text(x.Word))
	}
	return strings.Join(append(l, texts(n.Words)...), " ")
}

func modelCase(c api.Case) string {
	s := "(" + strings.Join(texts(c.Patterns), "|") + ") "
	for _, n := range c.Body {
		s += modelKid(n)
	}
	return s + ";; "
}

// modelText is what Text has to answer of a program.
func modelText(n api.Node) string {
	s := ""
	for i, k := range n.Kids {
		s += modelCommand(k) + map[bool]string{true: " &\n", false: "\n"}[n.Beside[i]]
	}
	return s
}

func texts(l []api.Word) []string {
	var out []string
	for _, w := range l {
		out = append(out, word.Text(w))
	}
	return out
}

// A maker makes programs as chance has it.
type maker struct{ chance *rand.Rand }

func (m maker) one(n int) bool { return m.chance.IntN(n) == 0 }

func pick[T any](m maker, l ...T) T { return l[m.chance.IntN(len(l))] }

// text is one of any bytes, those that mean something among them.
func (m maker) text() string {
	s := make([]byte, m.chance.IntN(5))
	for i := range s {
		s[i] = byte(m.chance.IntN(256))
		if !m.one(3) {
			const some = "'\"\\$`{}#;&|()<> \t\n=:-+?ax1@*![]"
			s[i] = some[m.chance.IntN(len(some))]
		}
	}
	return string(s)
}

// parts are some that are right in a word of a command, in a parameter, or in a quoted one, as allowed tells.
func (m maker) parts(deep int, quoted bool, allowed func(string) bool) []api.Part {
	var l []api.Part
	for m.one(2) {
		p := api.Part{Kind: api.Lit, Text: m.text(), Quoted: quoted || m.one(2)}
		if deep > 0 && m.one(2) {
			p = m.param(deep, quoted)
		}
		beside := p.Kind == api.Lit && len(l) > 0 && l[len(l)-1].Kind == api.Lit && l[len(l)-1].Quoted == p.Quoted
		if !beside && (p.Kind == api.Param || p.Quoted && (p.Text != "" || !quoted) || !p.Quoted && p.Text != "" && allowed(p.Text)) {
			l = append(l, p)
		}
	}
	return l
}

func (m maker) param(deep int, quoted bool) api.Part {
	p := api.Part{Kind: api.Param, Quoted: quoted || m.one(2), Text: pick(m, "x", "_1", "1", "10", "0", "@", "*", "#", "?", "$", "!"), Op: pick(m, "", "-", ":-", "+", ":+", "?", ":?")}
	if m.one(4) {
		p.Text, p.Op = pick(m, "x", "if"), pick(m, "=", ":=")
	}
	if p.Op != "" {
		p.Of = m.parts(deep-1, p.Quoted, func(s string) bool { return !strings.ContainsAny(s, "\"$'\\`}") })
	}
	return p
}

func (m maker) value() api.Word {
	return m.parts(3, false, func(s string) bool { return !strings.ContainsAny(s, " \t\n;&|()<>\"$'\\`") })
}

// word is one that may stand anywhere but, perhaps, at the beginning of a simple command.
func (m maker) word() api.Word {
	if m.one(2) {
		return lit(pick(m, "a", "b", "if", "fi", "do", "done", "in", "esac", "{", "}", "!", "x=1", "x=", "a#", "*", "[!a]"))
	}
	for {
		if w := m.value(); word.Right(w) {
			return w
		}
	}
}

func (m maker) words(least, most int) []api.Word {
	var l []api.Word
	for range least + m.chance.IntN(most-least+1) {
		l = append(l, m.word())
	}
	return l
}

func (m maker) simple() api.Node {
	for {
		n := api.Node{Kind: api.Simple, Words: m.words(0, 3)}
		for m.one(3) {
			n.Assigns = append(n.Assigns, api.Assign{Name: pick(m, "x", "_1", "if", "in"), Word: m.value()})
		}
		if tree.Right(n) {
			return n
		}
	}
}

// list has items in which compounds stand at most so deep.
func (m maker) list(least, deep int) api.Node {
	n := api.Node{Kind: api.List}
	for len(n.Kids) < least || m.one(3) {
		n.Kids = append(n.Kids, m.item(deep))
		n.Beside = append(n.Beside, m.one(3))
	}
	return n
}

func (m maker) item(deep int) api.Node {
	n := m.unit(deep)
	for m.one(4) {
		n = of(pick(m, api.And, api.Or), n, m.unit(deep))
	}
	return n
}

func (m maker) unit(deep int) api.Node {
	n := m.simple()
	if deep > 0 && m.one(2) {
		n = m.compound(deep)
		if m.one(6) {
			n = function(pick(m, "f", "x", "_1", "iff"), n)
		}
	}
	if m.one(6) {
		n = not(n)
	}
	return n
}

func (m maker) compound(deep int) api.Node {
	bodies := func(many int) []api.Node {
		var l []api.Node
		for range many {
			l = append(l, m.list(1, deep-1))
		}
		return l
	}
	switch kind := api.If + m.chance.IntN(7); kind {
	case api.If:
		return of(kind, bodies(2+m.chance.IntN(2))...)
	case api.While, api.Until:
		return of(kind, bodies(2)...)
	case api.For:
		n := each(pick(m, "i", "_1", "in", "do", "done", "if"), m.one(2), bodies(1)[0])
		if n.Given {
			n.Words = m.words(0, 3)
		}
		return n
	case api.Choose:
		n := choose(m.word())
		for m.one(2) {
			n.Cases = append(n.Cases, entry(m.words(1, 3), bodies(m.chance.IntN(2))...))
		}
		return n
	default:
		return of(kind, bodies(1)...)
	}
}

// P7.1, P7.2, P7.3: programs that are thrown together, written, and read again.
func TestThrown(t *testing.T) {
	m := maker{rand.New(rand.NewPCG(7, 1))}
	kinds := [14]int{}
	for i := range 20000 {
		n := m.list(0, i%5)
		checkText(t, n, modelText(n))
		for _, k := range n.Kids {
			kinds[k.Kind]++
			if got := print.Command(k); got != modelCommand(k) {
				t.Errorf("Command of %s is %.600q, not %.600q", brief(k), got, modelCommand(k))
			}
		}
		if t.Failed() {
			return
		}
	}
	kinds[api.List] = kinds[api.Simple]
	if slices.Min(kinds[1:]) < 200 {
		t.Errorf("there are too few of a kind: %v", kinds)
	}
}

// spoil changes one field of a node somewhere within.
func (m maker) spoil(n *api.Node) {
	if len(n.Kids) > 0 && !m.one(4) {
		m.spoil(&n.Kids[m.chance.IntN(len(n.Kids))])
		return
	}
	switch m.chance.IntN(8) {
	case 0:
		n.Kind = m.chance.IntN(16) - 1
	case 1:
		n.Name = pick(m, "", "x", "if", "1", "a b")
	case 2:
		n.Given = !n.Given
	case 3:
		n.Assigns = append(n.Assigns, api.Assign{Name: pick(m, "", "x", "1"), Word: pick(m, m.value(), lit("a b"))})
	case 4:
		n.Words = append(m.words(0, 2), pick(m, m.word(), lit("a b"), nil))
	case 5:
		n.Kids = append(n.Kids, m.unit(1))
	case 6:
		n.Beside = append(n.Beside, m.one(2))
	default:
		n.Kids = n.Kids[:len(n.Kids)/2]
	}
}

// P1, P7.1, P7.2: nodes with a fault, as a rule, are answered, and by nothing where they aren't right.
func TestSpoilt(t *testing.T) {
	m := maker{rand.New(rand.NewPCG(7, 2))}
	right, wrong := 0, 0
	for i := range 20000 {
		n := m.list(1, i%5)
		m.spoil(&n)
		for _, x := range append(slices.Clone(n.Kids), n) {
			text, command := "", ""
			switch {
			case !tree.Right(x):
				wrong++
			case x.Kind == api.List:
				text = modelText(x)
			default:
				right++
				command = modelCommand(x)
			}
			if print.Text(x) != text || print.Command(x) != command {
				t.Fatalf("Text and Command of %s are %.600q and %.600q, not %.600q and %.600q", brief(x), print.Text(x), print.Command(x), text, command)
			}
		}
	}
	if right < 2000 || wrong < 2000 {
		t.Errorf("%d are right, and %d wrong", right, wrong)
	}
}

// P7.2, P7.3: every byte in a quoted text, and where it stands for itself, in each place where a word may be.
func TestBytes(t *testing.T) {
	for i := range 256 {
		s := string([]byte{byte(i)})
		l := []api.Word{word.Of(s), word.Of("a" + s + "b"), marked("x", ":-", word.Of("a"+s)...), par("x", "-", word.Of(s+"a")...), lit("a" + s), par("x", "+", lit("a"+s)...), lit(s)}
		for _, w := range slices.DeleteFunc(l, func(w api.Word) bool { return !word.Right(w) }) {
			x := word.Text(w)
			checkText(t, list(each("i", true, besides(cmd("a")), w, w), choose(w, entry([]api.Word{w, w}), entry([]api.Word{w}, list(with(sets("x", w, "y", w), lit("a"), w))))),
				"for i in "+x+" "+x+"; do a & done\ncase "+x+" in ("+x+"|"+x+") ;; ("+x+") x="+x+" y="+x+" a "+x+"; ;; esac\n")
			if n := does(w, w); tree.Right(n) {
				checkText(t, list(n, not(n)), x+" "+x+"\n! "+x+" "+x+"\n")
			}
		}
	}
}

// P7.2, P7.3: commands, and parameters, that stand as deep as they may.
func TestDeep(t *testing.T) {
	for _, x := range []struct {
		ahead, behind string
		around        func(api.Node) api.Node
	}{
		{"{ ", "; }", func(n api.Node) api.Node { return group(list(n)) }},
		{"(", " & )", func(n api.Node) api.Node { return sub(besides(n)) }},
		{"f() (a; ", "; )", func(n api.Node) api.Node { return function("f", sub(list(a, n))) }},
		{"if a; then b; else ", "; fi", func(n api.Node) api.Node { return of(api.If, list(a), list(b), list(n)) }},
		{"while ", " & do a; done", func(n api.Node) api.Node { return of(api.While, besides(n), list(a)) }},
		{"for i do ", "; done", func(n api.Node) api.Node { return each("i", false, list(n)) }},
		{"case a in (b) ", "; ;; esac", func(n api.Node) api.Node { return choose(lit("a"), entry(plain("b"), list(n))) }},
		{"! until a; do ", " & done", func(n api.Node) api.Node { return not(of(api.Until, list(a), besides(n))) }},
	} {
		n := a
		for range 200 {
			n = x.around(n)
		}
		checkCommands(t, written{n, strings.Repeat(x.ahead, 200) + "a" + strings.Repeat(x.behind, 200)})
		n = x.around(n)
		if print.Command(n) != "" || print.Text(list(n)) != "" {
			t.Errorf("what stands too deep is written: %.600q", print.Command(n))
		}
	}
	checkCommands(t, written{does(deepWord(200)), strings.Repeat("${x-", 200) + strings.Repeat("}", 200)})
}

// P1, P7: what is long.
func TestLong(t *testing.T) {
	const much = 1 << 16
	n, s := a, "a"
	for range much - 2 {
		n = and(n, b)
	}
	s += strings.Repeat(" && b", much-2)
	checkText(t, list(n), s+"\n")
	checkText(t, list(slices.Repeat([]api.Node{a, sub(besides(b))}, much)...), strings.Repeat("a\n(b & )\n", much))
	checkText(t, list(group(list(slices.Repeat([]api.Node{a}, much)...))), "{ "+strings.Repeat("a; ", much)+"}\n")
	checkText(t, list(does(slices.Repeat(plain("a"), much)...)), strings.TrimSuffix(strings.Repeat("a ", much), " ")+"\n")
	checkText(t, list(does(word.Of(strings.Repeat("'", much)))), "'"+strings.Repeat(`'\''`, much)+"'\n")
	checkText(t, list(choose(lit("a"), slices.Repeat([]api.Case{entry(plain("b", "c"), list(d))}, much)...)), "case a in "+strings.Repeat("(b|c) d; ;; ", much)+"esac\n")
}

// P7.1: what is written of what is read is the same, however it was written.
func TestAgain(t *testing.T) {
	for s, want := range map[string]string{
		"if a\nthen b&\nfi":                   "if a; then b & fi\n",
		"\n\n a ;\n# b\n c \\\n d & e":        "a\nc d &\ne\n",
		"a &&\n\n b||c":                       "a && b || c\n",
		"if a;then b;elif c;then d;else e;fi": "if a; then b; else if c; then d; else e; fi; fi\n",
		"for i\nin a b\n\ndo\nc\n\ndone":      "for i in a b; do c; done\n",
		"for i;do c;done":                     "for i do c; done\n",
		"case a in\n\nb|c)\n\n;;(d)a;b\nesac": "case a in (b|c) ;; (d) a; b; ;; esac\n",
		"case a in (b) c\nesac":               "case a in (b) c; ;; esac\n",
		"f ( )\n\n{ a\n}":                     "f() { a; }\n",
		"\\if $x\"$y z\"\\'a\"\"":             `'i'f ${x}"${y}"' z'\'''a''` + "\n",
		"x=\"\" y=$1 ${z:-a \"b c\"}":         `x='' y=${1} ${z:-a 'b c'}` + "\n",
	} {
		n, at, err := parse.Parse(s)
		if err != api.OK {
			t.Errorf("Parse(%q) is wrong at %d by %d", s, at, err)
		}
		checkText(t, n, want)
	}
}
