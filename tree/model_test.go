package tree_test

import (
	"math/rand/v2"
	"regexp"
	"slices"
	"testing"

	"deadfall/api"
	"deadfall/class"
	"deadfall/tree"
	"deadfall/word"
)

// What the chapter says of kinds, once more: a letter for each, and which fields, and which kids, a node of each has.
const letters = "?s&|!liwufcgbd"

var (
	fields = []string{"", "AW", "K", "K", "K", "KB", "K", "K", "K", "NGWK", "WC", "K", "K", "NK"}
	kids   = []*regexp.Regexp{
		api.Simple:   regexp.MustCompile(`^$`),
		api.And:      regexp.MustCompile(`^[&|!siwufcgbd][!siwufcgbd]$`),
		api.Or:       regexp.MustCompile(`^[&|!siwufcgbd][!siwufcgbd]$`),
		api.Not:      regexp.MustCompile(`^[siwufcgbd]$`),
		api.List:     regexp.MustCompile(`^[&|!siwufcgbd]*$`),
		api.If:       regexp.MustCompile(`^LLL?$`),
		api.While:    regexp.MustCompile(`^LL$`),
		api.Until:    regexp.MustCompile(`^LL$`),
		api.For:      regexp.MustCompile(`^L$`),
		api.Choose:   regexp.MustCompile(`^$`),
		api.Group:    regexp.MustCompile(`^L$`),
		api.Subshell: regexp.MustCompile(`^L$`),
		api.Func:     regexp.MustCompile(`^[iwufcgb]$`),
	}
	bodies = regexp.MustCompile(`^L?$`)
)

// shape is a letter for each node of a list: a great one for a List with Kids.
func shape(l []api.Node) string {
	var s []byte
	for _, n := range l {
		switch {
		case n.Kind < 1 || n.Kind > api.Func:
			s = append(s, '?')
		case n.Kind == api.List && len(n.Kids) > 0:
			s = append(s, 'L')
		default:
			s = append(s, letters[n.Kind])
		}
	}
	return string(s)
}

// has are the fields, a letter for each, in which a node has something.
func has(n api.Node) string {
	s := ""
	for _, field := range []struct {
		full   bool
		letter string
	}{{n.Name != "", "N"}, {n.Given, "G"}, {len(n.Assigns) > 0, "A"}, {len(n.Words) > 0, "W"}, {len(n.Kids) > 0, "K"}, {len(n.Beside) > 0, "B"}, {len(n.Cases) > 0, "C"}} {
		if field.full {
			s += field.letter
		}
	}
	return s
}

// modelNodes goes through the node and all in it, each with how many stand around it that make it deeper, one of If to Func itself among them.
func modelNodes(n api.Node, deep int, see func(n api.Node, deep int)) {
	if n.Kind >= api.If && n.Kind <= api.Subshell {
		deep++
	}
	at := deep
	if n.Kind == api.Func {
		at++
	}
	see(n, at)
	for _, k := range n.Kids {
		modelNodes(k, deep, see)
	}
	for _, c := range n.Cases {
		for _, k := range c.Body {
			modelNodes(k, deep, see)
		}
	}
}

// modelRight is what Right has to answer.
func modelRight(n api.Node) bool {
	right := true
	modelNodes(n, 0, func(n api.Node, deep int) {
		right = right && deep <= 200 && modelNode(n)
	})
	return right
}

// modelNode: is a node right, if all in it are?
func modelNode(n api.Node) bool {
	if n.Kind < 1 || n.Kind > api.Func || !kids[n.Kind].MatchString(shape(n.Kids)) {
		return false
	}
	for _, field := range has(n) {
		if !slices.Contains([]rune(fields[n.Kind]), field) {
			return false
		}
	}
	words := slices.Clone(n.Words)
	for _, c := range n.Cases {
		if len(c.Patterns) == 0 || !bodies.MatchString(shape(c.Body)) {
			return false
		}
		words = append(words, c.Patterns...)
	}
	if slices.ContainsFunc(words, func(w api.Word) bool { return !word.Right(w) }) {
		return false
	}
	switch n.Kind {
	case api.Simple:
		return modelSimple(n)
	case api.List:
		return len(n.Kids) == len(n.Beside)
	case api.For:
		return class.Name(n.Name) && (n.Given || len(n.Words) == 0)
	case api.Choose:
		return len(n.Words) == 1
	case api.Func:
		return class.Name(n.Name) && !class.Reserved(n.Name)
	}
	return true
}

var (
	assigning = regexp.MustCompile(`^[a-zA-Z_][a-zA-Z_0-9]*=`)
	reserved  = regexp.MustCompile(`^(!|\{|\}|if|then|else|elif|fi|while|until|do|done|for|in|case|esac)$`)
)

func modelSimple(n api.Node) bool {
	for _, a := range n.Assigns {
		if !class.Name(a.Name) || !word.Value(a.Word) {
			return false
		}
	}
	if len(n.Words) == 0 {
		return len(n.Assigns) > 0
	}
	first := word.Text(n.Words[0])
	return !assigning.MatchString(first) && (len(n.Assigns) > 0 || !reserved.MatchString(first))
}

// A maker makes nodes that are right, as a rule, as chance has it.
type maker struct{ chance *rand.Rand }

func (m maker) one(n int) bool { return m.chance.IntN(n) == 0 }

func (m maker) name() string {
	l := []string{"x", "f", "_1", "if", "done", "1", "", "a-b"}
	if m.one(40) {
		return l[m.chance.IntN(len(l))]
	}
	return l[m.chance.IntN(3)]
}

func (m maker) words(most int) []api.Word {
	l := []api.Word{lit("a"), word.Of("if"), par("x", "-", lit("b")...), lit("b"), lit("if"), lit("x=1"), lit("}"), lit("x="), lit("#"), nil, lit(""), lit("a b"), par("1", "=")}
	var out []api.Word
	for range m.chance.IntN(most + 1) {
		switch {
		case m.one(60):
			out = append(out, l[m.chance.IntN(len(l))])
		case len(out) > 0:
			out = append(out, l[m.chance.IntN(8)])
		default:
			out = append(out, l[m.chance.IntN(4)])
		}
	}
	return out
}

// among is a node of one of these kinds, or, seldom, of any.
func (m maker) among(deep int, kinds ...int) api.Node {
	if m.one(150) {
		return m.node(deep, m.chance.IntN(15))
	}
	if deep > 6 && kinds[0] == api.Simple {
		return m.node(deep, api.Simple)
	}
	return m.node(deep, kinds[m.chance.IntN(len(kinds))])
}

// commands are the kinds that a Not has; the Simple one comes first.
var commands = []int{1, 1, 6, 7, 8, 9, 10, 11, 12, 13}

func (m maker) body(deep int) api.Node {
	n := m.among(deep, api.List)
	if n.Kind == api.List && len(n.Kids) == 0 && !m.one(20) {
		n.Kids, n.Beside = []api.Node{m.node(deep, api.Simple)}, []bool{m.one(2)}
	}
	return n
}

func (m maker) bodies(deep, least, most int) []api.Node {
	if m.one(200) {
		least, most = 0, 4
	}
	var l []api.Node
	for range least + m.chance.IntN(most-least+1) {
		l = append(l, m.body(deep))
	}
	return l
}

func (m maker) node(deep, kind int) api.Node {
	n := api.Node{Kind: kind}
	deep++
	item := slices.Concat(commands, []int{2, 3, 4})
	switch kind {
	case api.Simple:
		n.Words = m.words(3)
		for len(n.Assigns) < m.chance.IntN(3) || len(n.Assigns)+len(n.Words) == 0 && !m.one(20) {
			n.Assigns = append(n.Assigns, api.Assign{Name: m.name(), Word: slices.Concat(m.words(1)...)})
		}
	case api.And, api.Or:
		n.Kids = []api.Node{m.among(deep, item...), m.among(deep, item[:len(item)-m.chance.IntN(2)]...)}
		if k := &n.Kids[1]; k.Kind == api.And || k.Kind == api.Or {
			*k = m.among(deep, append(commands, 4)...)
		}
	case api.Not:
		n.Kids = []api.Node{m.among(deep, commands...)}
	case api.List:
		for range m.chance.IntN(3) {
			n.Kids = append(n.Kids, m.among(deep, item...))
			n.Beside = append(n.Beside, m.one(3))
		}
	case api.If:
		n.Kids = m.bodies(deep, 2, 3)
	case api.While, api.Until:
		n.Kids = m.bodies(deep, 2, 2)
	case api.For:
		n.Name, n.Given, n.Kids = m.name(), m.one(2), m.bodies(deep, 1, 1)
		if n.Given || m.one(30) {
			n.Words = m.words(3)
		}
	case api.Choose:
		n.Words = []api.Word{lit("a")}
		for range m.chance.IntN(3) {
			n.Cases = append(n.Cases, api.Case{Patterns: append(m.words(1), lit("*")), Body: m.bodies(deep, 0, 1)})
		}
	case api.Group, api.Subshell:
		n.Kids = m.bodies(deep, 1, 1)
	case api.Func:
		n.Name, n.Kids = m.name(), []api.Node{m.among(deep, commands[2:9]...)}
	}
	return n
}

// spoil changes one field of a node somewhere within.
func (m maker) spoil(n *api.Node) {
	if len(n.Kids) > 0 && !m.one(4) {
		m.spoil(&n.Kids[m.chance.IntN(len(n.Kids))])
		return
	}
	switch m.chance.IntN(9) {
	case 0:
		n.Kind = m.chance.IntN(15)
	case 1:
		n.Name = m.name()
	case 2:
		n.Given = !n.Given
	case 3:
		n.Assigns = append(n.Assigns, api.Assign{Name: m.name()})
	case 4:
		n.Words = m.words(2)
	case 5:
		n.Kids = append(n.Kids, m.node(5, 1+m.chance.IntN(13)))
	case 6:
		n.Beside = append(n.Beside, m.one(2))
	case 7:
		n.Cases = append(n.Cases, api.Case{Patterns: m.words(2), Body: m.bodies(5, 0, 2)})
	default:
		n.Kids = n.Kids[:len(n.Kids)/2]
	}
}

// P5.1, P5.2: nodes that are thrown together, some of them with a fault.
func TestThrown(t *testing.T) {
	m := maker{rand.New(rand.NewPCG(5, 1))}
	right, wrong := [14]int{}, [14]int{}
	for i := range 60000 {
		n := m.node(0, 1+i%13)
		c := tree.Clone(n)
		if !tree.Same(n, c) {
			t.Fatalf("the Clone of %s is %s", brief(n), brief(c))
		}
		if m.one(2) {
			m.spoil(&n)
		}
		want := modelRight(n)
		checkRight(t, n, want)
		if want {
			right[1+i%13]++
		} else {
			wrong[1+i%13]++
		}
		size := 0
		modelNodes(n, 0, func(api.Node, int) { size++ })
		if got := tree.Size(n); got != size {
			t.Errorf("Size of %s is %d, not %d", brief(n), got, size)
		}
	}
	if slices.Min(right[1:]) < 500 || slices.Min(wrong[1:]) < 500 {
		t.Errorf("there are too few right ones, or wrong ones, of a kind: %v, %v", right, wrong)
	}
}
