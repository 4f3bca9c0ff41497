package word_test

import (
	"reflect"
	"slices"
	"strings"
	"testing"

	"deadfall/api"
	"deadfall/class"
	"deadfall/word"
)

func lit(s string) api.Part { return api.Part{Kind: api.Lit, Text: s} }

func quo(s string) api.Part { return api.Part{Kind: api.Lit, Quoted: true, Text: s} }

func par(name, op string, of ...api.Part) api.Part {
	return api.Part{Kind: api.Param, Text: name, Op: op, Of: of}
}

func dpar(name, op string, of ...api.Part) api.Part {
	return api.Part{Kind: api.Param, Quoted: true, Text: name, Op: op, Of: of}
}

// each calls for every number that has a byte's size.
func each(do func(c byte, s string)) {
	for i := range 256 {
		do(byte(i), string([]byte{byte(i)}))
	}
}

// among: is the byte one of these?
func among(c byte, bytes ...byte) bool { return slices.Contains(bytes, c) }

// checkRight tells of a word that isn't right, or not wrong, as it should be.
func checkRight(t *testing.T, w api.Word, right, value bool) {
	t.Helper()
	if word.Right(w) != right || word.Value(w) != value {
		t.Errorf("Right, Value of %v are %v, %v", w, word.Right(w), word.Value(w))
	}
	if !value && word.Text(w) != "" {
		t.Errorf("Text of %v, which is wrong, is %q", w, word.Text(w))
	}
}

// P3.1, P3.2
func TestBytesOfTexts(t *testing.T) {
	each(func(c byte, s string) {
		bare := class.Bare(c)
		checkRight(t, api.Word{lit(s)}, bare && c != '#', bare)
		checkRight(t, api.Word{lit("a" + s)}, bare, bare)
		checkRight(t, api.Word{lit(s + "a")}, bare && c != '#', bare)
		checkRight(t, api.Word{par("x", ""), lit(s)}, bare, bare)
		checkRight(t, api.Word{quo(s)}, true, true)
		loose := !among(c, 34, 36, 39, 92, 96, 125)
		checkRight(t, api.Word{par("x", "-", lit(s))}, loose, loose)
		checkRight(t, api.Word{par("x", "-", par("y", "+", lit("a"+s+"a")))}, loose, loose)
		checkRight(t, api.Word{par("x", "-", quo(s))}, true, true)
		checkRight(t, api.Word{dpar("x", "-", quo(s))}, true, true)
		checkRight(t, api.Word{dpar("x", "-", lit(s))}, false, false)
		if bare && word.Text(api.Word{lit(s)}) != s {
			t.Errorf("Text of the text %q is %q", s, word.Text(api.Word{lit(s)}))
		}
		if loose && word.Text(api.Word{par("x", "-", lit(s))}) != "${x-"+s+"}" {
			t.Errorf("Text of a parameter with %q is %q", s, word.Text(api.Word{par("x", "-", lit(s))}))
		}
	})
}

// P3.2
func TestBytesOfQuotedTexts(t *testing.T) {
	each(func(c byte, s string) {
		quoted, escaped := "'a"+s+"b'", "a"+s+"b"
		if c == 39 {
			quoted = "'a" + string([]byte{39, 92, 39, 39}) + "b'"
		}
		if among(c, 34, 36, 92, 96, 125) {
			escaped = "a" + string([]byte{92, c}) + "b"
		}
		in := "a" + s + "b"
		if got := word.Quote(in); got != quoted {
			t.Errorf("Quote(%q) is %q", in, got)
		}
		for want, w := range map[string]api.Word{
			quoted:                   {quo(in)},
			"${x=" + quoted + "}":    {par("x", "=", quo(in))},
			`"${x=` + escaped + `}"`: {dpar("x", "=", quo(in))},
			`"${x=${y?` + escaped + "}" + escaped + `}"`: {dpar("x", "=", dpar("y", "?", quo(in)), quo(in))},
		} {
			if got := word.Text(w); got != want {
				t.Errorf("Text of %v is %q", w, got)
			}
		}
	})
}

// P3.2
func TestQuote(t *testing.T) {
	for s, want := range map[string]string{
		"": "''", "a b": "'a b'", "'": `''\'''`, "''": `''\'''\'''`, "a'b'c": `'a'\''b'\''c'`, "\n$`\"\\": "'\n$`\"\\'", "\xff'\x00": "'\xff'\\''\x00'",
		strings.Repeat("'", 100000): "'" + strings.Repeat(`'\''`, 100000) + "'",
	} {
		if got := word.Quote(s); got != want {
			t.Errorf("Quote(%.40q) is %.40q", s, got)
		}
	}
}

// P3.1, P3.2
func TestRightWords(t *testing.T) {
	for s, w := range map[string]api.Word{
		"abc":                          {lit("abc")},
		"\x00\xff{}[]*?~=%\x80":        {lit("\x00\xff{}[]*?~=%\x80")},
		"''":                           {quo("")},
		"'a b'":                        {quo("a b")},
		"'#'":                          {quo("#")},
		"'a'b'c'":                      {quo("a"), lit("b"), quo("c")},
		"''a''":                        {quo(""), lit("a"), quo("")},
		"a'b'${c}${d}'e'f":             {lit("a"), quo("b"), par("c", ""), par("d", ""), quo("e"), lit("f")},
		"a${x}#":                       {lit("a"), par("x", ""), lit("#")},
		"''#":                          {quo(""), lit("#")},
		"${x}":                         {par("x", "")},
		`"${x}"`:                       {dpar("x", "")},
		`"${x}""${x}"`:                 {dpar("x", ""), dpar("x", "")},
		"${x-#}":                       {par("x", "-", lit("#"))},
		"${x-a b''c}":                  {par("x", "-", lit("a b"), quo(""), lit("c"))},
		"${x:?'}'}":                    {par("x", ":?", quo("}"))},
		`${x-"${y}"}`:                  {par("x", "-", dpar("y", ""))},
		`${x-"${y-a\}b}"' '}`:          {par("x", "-", dpar("y", "-", quo("a}b")), quo(" "))},
		`"${x-${y}}"`:                  {dpar("x", "-", dpar("y", ""))},
		`"${x-a${y-b'${z}}c\}}"'d}'`:   {dpar("x", "-", quo("a"), dpar("y", "-", quo("b'"), dpar("z", "")), quo("c}")), quo("d}")},
		`${x-"${y}"${z-'"'"${v-\"}"}}`: {par("x", "-", dpar("y", ""), par("z", "-", quo(`"`), dpar("v", "-", quo(`"`))))},
	} {
		checkRight(t, w, true, true)
		if got := word.Text(w); got != s {
			t.Errorf("Text of %v is %q, not %q", w, got, s)
		}
	}
}

// P3.1, P3.2: what is a right value, and yet no right word.
func TestRightValues(t *testing.T) {
	for s, w := range map[string]api.Word{
		"":          nil,
		"#":         {lit("#")},
		"#a'b'":     {lit("#a"), quo("b")},
		"##${x-#c}": {lit("##"), par("x", "-", lit("#c"))},
	} {
		checkRight(t, w, false, true)
		if got := word.Text(w); got != s {
			t.Errorf("Text of %v is %q, not %q", w, got, s)
		}
	}
	checkRight(t, api.Word{}, false, true)
}

// P3.1, P3.2
func TestWrongParts(t *testing.T) {
	for _, p := range []api.Part{
		{}, {Text: "a"}, {Kind: 3, Text: "a"}, {Kind: -1, Text: "a"}, {Kind: 1 << 40, Text: "a", Quoted: true},
		lit(""),
		{Kind: api.Lit, Text: "a", Op: "-"}, {Kind: api.Lit, Text: "a", Of: []api.Part{quo("b")}}, {Kind: api.Lit, Text: "a", Op: "-", Of: []api.Part{quo("b")}},
		{Kind: api.Lit, Quoted: true, Text: "a", Op: "-"}, {Kind: api.Lit, Quoted: true, Text: "a", Of: []api.Part{quo("b")}},
		par("", ""), par("a-", ""), par("01", ""), par("1000", ""), par("x y", ""), par("-", ""), par("@@", ""), par("", "-"), par("é", ""),
		par("x", "", quo("a")), dpar("x", "", quo("a")),
		par("x", "-", lit("")), par("x", "-", lit("a"), lit("b")), par("x", "-", quo("a"), quo("b")), par("x", "-", par("", "")), par("x", "-", api.Part{}),
		dpar("x", "-", quo("")), dpar("x", "-", lit("a")), dpar("x", "-", par("y", "")), dpar("x", "-", quo("a"), quo("b")), dpar("x", "-", quo("a"), par("y", "-", quo("b"))),
		dpar("x", "-", dpar("y", "-", par("z", ""))), dpar("x", "-", dpar("y", "-", quo(""))), dpar("x", "-", dpar("", "")), dpar("x", "-", api.Part{Quoted: true}),
		par("x", "-", dpar("y", "-", lit("a"))), par("x", "-", dpar("y", "-", quo(""))),
	} {
		checkRight(t, api.Word{p}, false, false)
		checkRight(t, api.Word{par("y", ""), p}, false, false)
		checkRight(t, api.Word{p, par("y", "")}, false, false)
		checkRight(t, api.Word{par("x", "=", p)}, false, false)
		checkRight(t, api.Word{dpar("x", "=", p)}, false, false)
	}
	for _, w := range []api.Word{
		{lit("a"), lit("b")}, {quo("a"), quo("b")}, {quo(""), quo("")}, {par("x", ""), lit("a"), lit("b")}, {lit("a"), quo("a"), quo("b"), lit("b")},
	} {
		checkRight(t, w, false, false)
	}
}

// P3.1
func TestNamesAndOps(t *testing.T) {
	ops := []string{"", "-", ":-", "=", ":=", "+", ":+", "?", ":?"}
	for _, op := range append(ops, ":", "--", "-:", "::-", "=:", "==", "%", "#", "##", "%%", "/", " ", " -", "- ", "-\x00", "\x00", "a", "}") {
		for _, name := range []string{"x", "_9", "if", "1", "0", "999", "@", "*", "#", "?", "$", "!"} {
			right := slices.Contains(ops, op) && (!strings.HasSuffix(op, "=") || class.Name(name))
			checkRight(t, api.Word{par(name, op)}, right, right)
			checkRight(t, api.Word{dpar(name, op)}, right, right)
			of := right && op != ""
			checkRight(t, api.Word{par(name, op, lit("a"))}, of, of)
			checkRight(t, api.Word{dpar(name, op, quo("a"))}, of, of)
			checkRight(t, api.Word{dpar("z", "-", dpar(name, op, quo("a")))}, of, of)
			if right && (word.Text(api.Word{par(name, op)}) != "${"+name+op+"}" || word.Text(api.Word{dpar(name, op)}) != `"${`+name+op+`}"`) {
				t.Errorf("Text of %q, %q is %q", name, op, word.Text(api.Word{par(name, op)}))
			}
		}
	}
}

// nested is a parameter that stands so deep, within others, with a text in it.
func nested(deep int, quoted bool) api.Word {
	w := api.Word{quo("a")}
	for range deep {
		w = api.Word{{Kind: api.Param, Quoted: quoted, Text: "x", Op: "-", Of: w}}
	}
	return w
}

// P3.1, P3.2
func TestDepth(t *testing.T) {
	for _, quoted := range []bool{false, true} {
		for _, deep := range []int{1, 2, 199, 200, 201, 202, 5000, 1 << 16} {
			checkRight(t, nested(deep, quoted), deep <= 200, deep <= 200)
			checkRight(t, slices.Concat(api.Word{dpar("y", "")}, nested(deep, quoted)), deep <= 200, deep <= 200)
		}
	}
	ends := strings.Repeat("}", 200)
	if got := word.Text(nested(200, false)); got != strings.Repeat("${x-", 200)+"'a'"+ends {
		t.Errorf("Text is %q", got)
	}
	if got := word.Text(nested(200, true)); got != `"`+strings.Repeat("${x-", 200)+"a"+ends+`"` {
		t.Errorf("Text is %q", got)
	}
}

// P3.1
func TestSame(t *testing.T) {
	words := []api.Word{
		nil, {{}}, {{}, {}}, {{Kind: 7}}, {lit("")}, {quo("")}, {lit("a")}, {quo("a")}, {lit("b")}, {lit("a"), lit("a")}, {lit("a"), quo("a")}, {quo("a"), lit("a")}, {lit("aa")},
		{{Kind: api.Lit, Text: "a", Op: "-"}}, {{Kind: api.Lit, Text: "a", Of: []api.Part{lit("a")}}},
		{par("a", "")}, {dpar("a", "")}, {par("b", "")}, {par("a", "-")}, {par("a", ":-")}, {par("a", "-", lit("b"))}, {par("a", "-", quo("b"))}, {dpar("a", "-", quo("b"))},
		{par("a", "-", par("b", "-", lit("c")))}, {par("a", "-", par("b", "-", lit("d")))}, {par("a", "-", par("b", "-", lit("c"), quo("")))}, {par("a", "-", par("b", "-", lit("c")), quo(""))}, {par("a", "-", par("b", "-", lit("c"))), quo("")},
		nested(200, true), nested(201, true), nested(1<<16, false),
	}
	for i, a := range words {
		for j, b := range words {
			if got := word.Same(a, b); got != (i == j) {
				t.Errorf("Same of the words %d and %d is %v", i, j, got)
			}
		}
	}
	empty := par("a", "-")
	empty.Of = []api.Part{}
	if !word.Same(nil, api.Word{}) || !word.Same(api.Word{empty}, api.Word{par("a", "-")}) || !word.Same(nested(300, true), nested(300, true)) {
		t.Error("words that are the same aren't Same")
	}
}

// P3.3
func TestPlain(t *testing.T) {
	for _, s := range []string{"a", "if", "", "#a", "a b", "$\n'", "\xff\x00"} {
		if got, ok := word.Plain(api.Word{lit(s)}); !ok || got != s {
			t.Errorf("Plain of the text %q is %q, %v", s, got, ok)
		}
	}
	for _, w := range []api.Word{
		nil, {}, {quo("if")}, {quo("")}, {lit("a"), quo("b")}, {quo("a"), lit("b")}, {lit("a"), lit("b")}, {par("x", "")}, {dpar("x", "")}, {lit("a"), par("x", "")}, {{Text: "a"}}, {{Kind: 3, Text: "a"}},
	} {
		if got, ok := word.Plain(w); ok || got != "" {
			t.Errorf("Plain of %v is %q, %v", w, got, ok)
		}
	}
}

// P3.3
func TestSplit(t *testing.T) {
	deep := dpar("y", "-", quo("a"), dpar("z", "+", quo("b")))
	for _, c := range []struct {
		w     api.Word
		name  string
		value api.Word
	}{
		{api.Word{lit("x=1")}, "x", api.Word{lit("1")}},
		{api.Word{lit("x=")}, "x", nil},
		{api.Word{lit("_a9=#b")}, "_a9", api.Word{lit("#b")}},
		{api.Word{lit("if==")}, "if", api.Word{lit("=")}},
		{api.Word{lit("x=a=b"), par("y", "")}, "x", api.Word{lit("a=b"), par("y", "")}},
		{api.Word{lit("x="), quo("")}, "x", api.Word{quo("")}},
		{api.Word{lit("x="), lit("y=z")}, "x", api.Word{lit("y=z")}},
		{api.Word{lit("x="), deep, lit("c")}, "x", api.Word{deep, lit("c")}},
		{api.Word{lit("x=a b\xff"), deep, {}}, "x", api.Word{lit("a b\xff"), deep, {}}},
	} {
		before := api.Word(slices.Clone(c.w))
		name, value, ok := word.Split(c.w)
		if !ok || name != c.name || !word.Same(value, c.value) {
			t.Errorf("Split of %v is %q, %v, %v", c.w, name, value, ok)
		}
		if !word.Same(c.w, before) {
			t.Errorf("Split has made %v of %v", c.w, before)
		}
	}
	for _, w := range []api.Word{
		nil, {}, {lit("")}, {lit("x")}, {lit("=")}, {lit("=1")}, {lit("1=2")}, {lit("1a=2")}, {lit("x-y=1")}, {lit("x =1")}, {lit("@=1")}, {lit("é=1")}, {lit("x+=1")}, {lit("xy\x00=1")},
		{quo("x=1")}, {lit("x"), quo("=1")}, {lit("x"), lit("=1")}, {quo("x"), lit("=1")}, {par("x", ""), lit("=1")}, {par("x", "=", lit("1"))}, {par("x=1", "")}, {{Text: "x=1"}}, {{Kind: 3, Text: "x=1"}}, {quo(""), lit("x=1")},
	} {
		if name, value, ok := word.Split(w); ok || name != "" || len(value) != 0 {
			t.Errorf("Split of %v is %q, %v, %v", w, name, value, ok)
		}
	}
}

// P3.3: an answer is new memory.
func TestSplitShares(t *testing.T) {
	for _, first := range []string{"x=", "x=1"} {
		both := make([]api.Part, 2, 8)
		both[0], both[1] = quo("a"), dpar("z", "-", quo("b"))
		w := append(make(api.Word, 0, 9), lit(first), dpar("y", "-", both...), dpar("y", "+", both...))
		before := api.Word{lit(first), dpar("y", "-", quo("a"), dpar("z", "-", quo("b"))), dpar("y", "+", quo("a"), dpar("z", "-", quo("b")))}
		_, value, _ := word.Split(w)
		last := len(value) - 1
		value[last].Of[0].Text, value[last].Of[1].Of[0].Text = "changed", "changed"
		if got := value[last-1].Of; got[0].Text != "a" || got[1].Of[0].Text != "b" {
			t.Errorf("two lists of what Split of %q answers are one", first)
		}
		value[0], value[last] = lit("c"), lit("d")
		_ = append(value, lit("e"))
		_ = append(value[:last:cap(value)], lit("f"))
		if !word.Same(w, before) || !word.Same(w[:cap(w)][3:], make(api.Word, 6)) || both[:3][2].Kind != 0 {
			t.Errorf("Split of %q shares what it answers", first)
		}
	}
}

// P3.3
func TestOf(t *testing.T) {
	for _, s := range []string{"", "a", "a b", "'", "#", "\xff\x00", strings.Repeat("ab", 50000)} {
		w := word.Of(s)
		if !reflect.DeepEqual(w, api.Word{{Kind: api.Lit, Quoted: true, Text: s}}) {
			t.Errorf("Of(%.40q) is %v", s, w)
		}
		if !word.Right(w) || word.Text(w) != word.Quote(s) {
			t.Errorf("Of(%.40q) is no right word, or its Text isn't Quote of it", s)
		}
	}
	word.Of("a")[0].Text = "b"
	if w := word.Of("a"); w[0].Text != "a" {
		t.Error("two answers of Of are one")
	}
}
