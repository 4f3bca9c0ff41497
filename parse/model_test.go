package parse_test

import (
	"math/rand/v2"
	"slices"
	"strings"
	"testing"

	"deadfall/api"
	"deadfall/class"
	"deadfall/lex"
	"deadfall/parse"
	"deadfall/tree"
	"deadfall/word"
)

// grammar is what the chapter says of tokens, once more: for each name what it may be. What has no line here is a token: a kind of word, or one that is written so; or `~`, by which no word comes next, as each that does is the command's.
var grammar = map[string][]string{
	"program":  {"lines some END"},
	"some":     {"", "list"},
	"list":     {"item rest"},
	"rest":     {"", "; lines some", "& lines some", "LINE lines some"},
	"item":     {"unit units"},
	"units":    {"", "&& lines unit units", "|| lines unit units"},
	"unit":     {"command", "! command"},
	"body":     {"lines list"},
	"lines":    {"", "LINE lines"},
	"command":  {"simple", "compound", "FUNCTION ( ) lines compound"},
	"simple":   {"FIRST words ~", "ASSIGN assigns behind ~"},
	"assigns":  {"", "ASSIGN assigns"},
	"behind":   {"", "OTHER words"},
	"words":    {"", "WORD words"},
	"compound": {"{ body }", "( body )", "if body then body tail fi", "while body do body done", "until body do body done", "for NAME given do body done", "case WORD lines in lines entries esac"},
	"tail":     {"", "else body", "elif body then body tail"},
	"given":    {"lines", "; lines", "lines in words last lines"},
	"last":     {";", "LINE"},
	"entries":  {"", "PATTERN patterns ) lines some ends", "( WORD patterns ) lines some ends"},
	"ends":     {"", ";; lines entries"},
	"patterns": {"", "| WORD patterns"},
}

// is tells whether a token is what the grammar calls so.
func is(t lex.Token, symbol string) bool {
	text, plain := word.Plain(t.Word)
	_, _, assign := word.Split(t.Word)
	free := t.Kind == lex.Word && !(plain && class.Reserved(text))
	switch symbol {
	case "END":
		return t.Kind == lex.End
	case "LINE":
		return t.Kind == lex.Line
	case "WORD":
		return t.Kind == lex.Word
	case "PATTERN":
		return t.Kind == lex.Word && !(plain && text == "esac")
	case "NAME":
		return plain && class.Name(text)
	case "FUNCTION":
		return free && plain && class.Name(text)
	case "ASSIGN":
		return assign
	case "OTHER":
		return t.Kind == lex.Word && !assign
	case "FIRST":
		return free && !assign
	}
	return t.Kind == lex.Sign && t.Text == symbol || plain && text == symbol
}

// hopes are what may have to come yet, each a row of names of the grammar.
type hopes map[string]bool

// atFirst are the hopes ahead of all tokens.
func atFirst() hopes { return hopes{"program": true} }

// behind are the hopes that are left behind a token; none, if no program's tokens begin so.
func (h hopes) behind(t lex.Token) hopes {
	left, seen := hopes{}, hopes{}
	var spread func(hope string)
	spread = func(hope string) {
		if seen[hope] || hope == "" {
			return
		}
		seen[hope] = true
		symbol, rest, _ := strings.Cut(hope, " ")
		switch ways := grammar[symbol]; {
		case ways != nil:
			for _, way := range ways {
				spread(strings.TrimSpace(way + " " + rest))
			}
		case symbol == "~" && t.Kind != lex.Word:
			spread(rest)
		case is(t, symbol):
			left[rest] = true
		}
	}
	for hope := range h {
		spread(hope)
	}
	return left
}

// modelParse is where, and how, a text is wrong, in which nothing stands too deep.
func modelParse(s string) (at int, err api.Errno) {
	h := atFirst()
	for _, t := range lex.Scan(s) {
		if h = h.behind(t); len(h) == 0 {
			return t.At, max(t.Err, api.ErrForm)
		}
	}
	return 0, api.OK
}

// checkModel holds a text against the grammar, and tells whether it is a program.
func checkModel(t *testing.T, s string) bool {
	t.Helper()
	at, err := modelParse(s)
	if err != api.OK {
		checkWrong(t, s, at, err)
		return false
	}
	n, gotAt, gotErr := parse.Parse(s)
	if gotAt != 0 || gotErr != api.OK || !tree.Program(n) {
		t.Errorf("Parse(%q) is %s, %d, %d, though it is a program", s, brief(n), gotAt, gotErr)
	}
	return true
}

// tokens are texts of tokens of each kind that the grammar tells from others.
func tokens() []string {
	return append(strings.Fields(reserved), "a", "'if'", "x=1", "1", "\n", ";", "&", "&&", "||", "|", ";;", "(", ")", "<", "$")
}

// P6.1: what goes on from a beginning that a program may have, token by token, each token at each place.
func TestBeginnings(t *testing.T) {
	programs := 0
	var all func(ahead string, h hopes, more int)
	all = func(ahead string, h hopes, more int) {
		if checkModel(t, ahead) {
			programs++
		}
		for _, s := range tokens() {
			if t.Failed() {
				return
			}
			read := lex.Scan(s)[0]
			next := h.behind(read)
			if len(next) == 0 {
				checkWrong(t, ahead+s, len(ahead), api.ErrForm)
				checkWrong(t, ahead+s+" a", len(ahead), api.ErrForm)
			} else if more > 0 {
				all(ahead+s+" ", next, more-1)
			}
		}
	}
	for ahead, more := range map[string]int{
		"": 3, "a ": 3, "a && ": 3, "! ": 3, "x=1 ": 3, "x=1 a ": 3, "a & ": 3, "{ ": 3, "{ a ; ": 3, "( a ": 3, "{ ( a ) ": 3, "f ": 3, "f ( ": 3, "f ( ) ": 3, "f ( ) { a ; } ": 3, "if ": 3, "if a \n ": 3, "if a ; then ": 3, "if a ; then b ; ": 3,
		"if a ; then b ; else ": 3, "if a ; then b ; else c ; ": 3, "if a ; then b ; elif ": 3, "if a ; then b ; elif c ; ": 3, "if a ; then b ; elif c ; then d ; ": 3, "if a ; then b ; fi ": 3, "while ": 3, "until a ; ": 3, "while a ; do ": 3, "until a ; do b ; ": 3, "while a ; do b ; done ": 3,
		"for ": 3, "for i ": 3, "for i ; ": 3, "for i \n ": 3, "for i in ": 3, "for i in a ": 3, "for i in a ; ": 3, "for i in a \n ": 3, "for i do ": 3, "for i do a ; ": 3, "for i do a ; done ": 3, "case ": 3, "case a ": 3, "case a \n ": 3, "case a in ": 3, "case a in \n ": 3, "case a in ( ": 3, "case a in b ": 3, "case a in b | ": 3,
		"case a in b ) ": 3, "case a in b ) \n ": 3, "case a in b ) c ": 3, "case a in b ) c ; ": 3, "case a in b ) ( c ) ": 3, "case a in b ) c ;; ": 3, "case a in b ) c ;; d ": 3, "case a in esac ": 3, "! ( if a ; then b ; else case a in b ) c ; ": 3,
	} {
		h := atFirst()
		l := lex.Scan(ahead)
		for _, token := range l[:len(l)-1] {
			h = h.behind(token)
		}
		if len(h) == 0 {
			t.Fatalf("no program begins with %q", ahead)
		}
		all(ahead, h, more-1)
	}
	if programs < 1000 {
		t.Errorf("there are only %d programs", programs)
	}
}

// P6.1: tokens that are thrown together.
func TestThrownTokens(t *testing.T) {
	chance := rand.New(rand.NewPCG(6, 1))
	l := append(tokens(), "f ( ) ", "for i ", "case a in ", "; then ", "; do ", "; fi ", "; done ", "; esac ", "; } ", "b ) ", "a ; ", "a ;; ")
	for range 100000 {
		if t.Failed() {
			return
		}
		s := ""
		for range chance.IntN(12) {
			s += l[chance.IntN(len(l))] + strings.Repeat(" ", chance.IntN(8)/7+chance.IntN(2))
		}
		checkModel(t, s)
	}
}

// spoiled is a text with some of its tokens, or of its bytes, taken out, doubled, or put in.
func spoiled(chance *rand.Rand, s string) string {
	l := lex.Scan(s)
	from := l[chance.IntN(len(l))].At
	to := l[chance.IntN(len(l))].At
	token := " " + tokens()[chance.IntN(len(tokens()))] + " "
	switch chance.IntN(6) {
	case 0:
		return s[:from] + token + s[from:]
	case 1:
		return s[:min(from, to)] + s[max(from, to):]
	case 2:
		i := slices.IndexFunc(l, func(t lex.Token) bool { return t.At == from })
		return s[:from] + token + s[l[min(i+1, len(l)-1)].At:]
	case 3:
		return s[:from]
	case 4:
		return s[:max(from, to)] + " " + s[min(from, to):]
	default:
		i := chance.IntN(len(s) + 1)
		return s[:i] + s[min(i+1, len(s)):]
	}
}

// P6.1: programs with a fault, or several.
func TestSpoiled(t *testing.T) {
	m := maker{rand.New(rand.NewPCG(6, 2))}
	programs, wrong := 0, 0
	for range 60000 {
		if t.Failed() {
			return
		}
		s := m.written(m.program(2)).text()
		if len(s) > 600 {
			continue
		}
		for range 1 + m.chance.IntN(2) {
			s = spoiled(m.chance, s)
		}
		if checkModel(t, s) {
			programs++
		} else {
			wrong++
		}
	}
	if programs < 10000 || wrong < 10000 {
		t.Errorf("there are only %d programs, and %d wrong texts", programs, wrong)
	}
}
