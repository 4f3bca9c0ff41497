package lex_test

import (
	"math/rand/v2"
	"regexp"
	"slices"
	"strings"
	"testing"

	"deadfall/api"
	"deadfall/lex"
	"deadfall/word"
)

// What the chapter says of tokens, once more, as patterns, to hold the scanner against.
var (
	passedOver = regexp.MustCompile(`^(?:[ \t]|\\\n|#[^\n]*)*`)
	signs      = regexp.MustCompile(`^(?:&&|\|\||;;|[&|;()])`)
	bare       = regexp.MustCompile(`^[^ \t\n;&|()<>"$'\\` + "`" + `]`)
	loose      = regexp.MustCompile(`^[^"$'\\}` + "`" + `]`)
	single     = regexp.MustCompile(`^'([^']*)'`)
	slashed    = regexp.MustCompile(`^\\(?:["$\\` + "`" + `])`)
	dollar     = regexp.MustCompile(`^\$([a-zA-Z_][a-zA-Z_0-9]*|[0-9]|[@*#?$!])`)
	bracket    = regexp.MustCompile(`^\$\{([a-zA-Z_][a-zA-Z_0-9]*|[1-9][0-9]{0,2}|0|[@*#?$!])(:?[-+?=]|\})`)
	setsNoName = regexp.MustCompile(`^\$\{[^a-zA-Z_][0-9]*:?=`)
)

// A model reads a text, whose bytes are below 128, till something is wrong.
type model struct {
	s     string
	wrong *lex.Token
}

func (m *model) fail(at int, err api.Errno) int {
	if m.wrong == nil {
		m.wrong = &lex.Token{Kind: lex.Bad, At: at, Err: err}
	}
	return len(m.s)
}

// joined puts a part behind others, texts side by side together.
func joined(l []api.Part, more ...api.Part) []api.Part {
	for _, p := range more {
		if n := len(l); n > 0 && p.Kind == api.Lit && l[n-1].Kind == api.Lit && l[n-1].Quoted == p.Quoted {
			l[n-1].Text += p.Text
		} else {
			l = append(l, p)
		}
	}
	return l
}

// unquoted reads the parts of a word, or, if they stand in a parameter, of its Of, and tells where they end.
func (m *model) unquoted(at, deep int) (l []api.Part, to int) {
	plain := bare
	if deep > 0 {
		plain = loose
	}
	for at < len(m.s) {
		s := m.s[at:]
		switch {
		case plain.MatchString(s):
			l, at = joined(l, lit(s[:1])), at+1
		case single.MatchString(s):
			x := single.FindStringSubmatch(s)
			l, at = joined(l, quo(x[1])), at+len(x[0])
		case strings.HasPrefix(s, "\\\n"):
			at += 2
		case s[0] == '\\' && len(s) > 1:
			l, at = joined(l, quo(s[1:2])), at+2
		case s[0] == '"':
			inner, end := m.quoted(at+1, deep, '"')
			if end == len(m.s) {
				return nil, m.fail(at, api.ErrForm)
			}
			if len(inner) == 0 {
				inner = append(inner, quo(""))
			}
			l, at = joined(l, inner...), end+1
		case s[0] == '$':
			p, end := m.param(at, deep+1, false)
			l, at = joined(l, p), end
		case s[0] == '\'' || s[0] == '\\' || s[0] == '`':
			return nil, m.fail(at, api.ErrForm)
		default:
			return l, at
		}
	}
	return l, at
}

// quoted reads the parts in double marks up to the end, and tells where that is.
func (m *model) quoted(at, deep int, end byte) (l []api.Part, to int) {
	for at < len(m.s) {
		s := m.s[at:]
		switch {
		case s[0] == end:
			return l, at
		case strings.HasPrefix(s, "\\\n"):
			at += 2
		case slashed.MatchString(s), end == '}' && strings.HasPrefix(s, "\\}"):
			l, at = joined(l, quo(s[1:2])), at+2
		case s[0] == '$':
			p, end := m.param(at, deep+1, true)
			l, at = joined(l, p), end
		case s[0] == '`' || s[0] == '"':
			return nil, m.fail(at, api.ErrForm)
		default:
			l, at = joined(l, quo(s[:1])), at+1
		}
	}
	return l, at
}

func (m *model) param(at, deep int, quoted bool) (p api.Part, to int) {
	p = api.Part{Kind: api.Param, Quoted: quoted}
	s := m.s[at:]
	if deep > 200 {
		return p, m.fail(at, api.ErrDeep)
	}
	if x := dollar.FindStringSubmatch(s); x != nil {
		p.Text = x[1]
		return p, at + len(x[0])
	}
	x := bracket.FindStringSubmatch(s)
	if x == nil || setsNoName.MatchString(s) {
		return p, m.fail(at, api.ErrForm)
	}
	p.Text, to = x[1], at+len(x[0])
	if x[2] == "}" {
		return p, to
	}
	p.Op = x[2]
	if quoted {
		p.Of, to = m.quoted(to, deep, '}')
	} else {
		p.Of, to = m.unquoted(to, deep)
	}
	if to == len(m.s) {
		return p, m.fail(at, api.ErrForm)
	}
	return p, to + 1
}

// modelNext is what Next has to answer.
func modelNext(s string, at int) (lex.Token, int) {
	at += len(passedOver.FindString(s[at:]))
	x := signs.FindString(s[at:])
	switch {
	case at == len(s):
		return anEnd(at), at
	case s[at] == '\n':
		return aLine(at), at + 1
	case s[at] == '<' || s[at] == '>':
		return aBad(at, api.ErrForm), at
	case x != "":
		return aSign(at, x), at + len(x)
	}
	m := model{s: s}
	l, to := m.unquoted(at, 0)
	if m.wrong != nil {
		return *m.wrong, m.wrong.At
	}
	return aWord(at, l...), to
}

// checkAll holds what is answered of a text, from each of its places on, against the model; its words are right, and written they are read as they were.
func checkAll(t *testing.T, s string) {
	t.Helper()
	for at := range len(s) + 1 {
		want, to := modelNext(s, at)
		checkNext(t, s, at, want, to)
	}
	var want []lex.Token
	for at := 0; len(want) == 0 || want[len(want)-1].Kind < lex.End; {
		var x lex.Token
		x, at = modelNext(s, at)
		want = append(want, x)
	}
	checkScan(t, s, want...)
	for _, x := range want {
		if x.Kind != lex.Word {
			continue
		}
		if again := lex.Scan(word.Text(x.Word)); !word.Right(x.Word) || len(again) != 2 || !word.Same(again[0].Word, x.Word) {
			t.Errorf("Scan(%q) has %v, which isn't right, or is %v again", s, x.Word, again)
		}
	}
}

// P4.1 to P4.6: all short texts of the bytes that matter.
func TestShortTexts(t *testing.T) {
	var all func(s string, n int)
	all = func(s string, n int) {
		checkAll(t, s)
		for i := 0; n > 0 && i < 14; i++ {
			all(s+"a1 \n'\"\\`${}-=#"[i:i+1], n-1)
		}
	}
	all("", 3)
	for _, s := range []string{"\"", "\"${x-", "${x-", "${", "$"} {
		all(s, 3)
	}
}

// P4.1 to P4.6: long texts of pieces that are thrown together.
func TestThrownTexts(t *testing.T) {
	pieces := strings.Fields("a 1 if # ; ;; & && | || ( ) < > ' ' '' \" \" \" \"\" \\ \\\\ ` $ $x $1 $@ $$ ${ ${x} ${x- ${x:= ${12?a ${1= ${#} ${@:+ ${01} } } } } } } - : = ? 'a' \"b\" \"$x\" \\} \\\"")
	pieces = append(pieces, " ", " ", "\t", "\n", "\\\n", "# a\n")
	chance := rand.New(rand.NewPCG(4, 6))
	kinds := [6]int{}
	for range 20000 {
		var s strings.Builder
		for range chance.IntN(20) {
			s.WriteString(pieces[chance.IntN(len(pieces))])
		}
		checkAll(t, s.String())
		for _, x := range lex.Scan(s.String()) {
			kinds[x.Kind]++
		}
	}
	if slices.Min(kinds[1:]) < 1000 {
		t.Errorf("there are too few tokens of a kind: %v", kinds)
	}
}

// aPart is a part that is right where it stands, or none.
func aPart(chance *rand.Rand, deep int, quoted bool) api.Part {
	const bytes = "a1 \n'\"\\`${}-=#;<\xff\x00"
	s := ""
	for range chance.IntN(4) {
		i := chance.IntN(len(bytes))
		s += bytes[i : i+1]
	}
	if deep > 4 || chance.IntN(3) == 0 {
		return api.Part{Kind: api.Lit, Quoted: quoted || chance.IntN(2) == 0, Text: s}
	}
	names := []string{"x", "_a1", "7", "120", "@", "*", "#", "?", "$", "!"}
	ops := []string{"", "-", ":-", "=", ":=", "+", ":+", "?", ":?"}
	p := api.Part{Kind: api.Param, Quoted: quoted || chance.IntN(2) == 0, Text: names[chance.IntN(len(names))], Op: ops[chance.IntN(len(ops))]}
	for range chance.IntN(4) {
		p.Of = append(p.Of, aPart(chance, deep+1, p.Quoted))
	}
	return p
}

// P4.2 to P4.5: each right word, written, is read as it was.
func TestRightWords(t *testing.T) {
	chance := rand.New(rand.NewPCG(2, 5))
	found := 0
	for range 100000 {
		var w api.Word
		for range 1 + chance.IntN(3) {
			w = append(w, aPart(chance, 0, false))
		}
		if word.Right(w) {
			found++
			checkWord(t, word.Text(w), w...)
		}
	}
	if found < 5000 {
		t.Errorf("there are too few right words: %d", found)
	}
}
