package pattern_test

import (
	"fmt"
	"slices"
	"strings"
	"testing"

	"deadfall/api"
	"deadfall/pattern"
)

// u is a piece that isn't Quoted, q one that is, cut one that is passed over.
func u(s string) api.Piece   { return api.Piece{Text: s} }
func q(s string) api.Piece   { return api.Piece{Text: s, Quoted: true} }
func cut(s string) api.Piece { return api.Piece{Text: s, Cut: true} }

func pieces(p ...api.Piece) []api.Piece { return p }

// texts are pieces' texts, one behind the other, none of them Quoted.
func texts(s string) []api.Piece { return pieces(u(s)) }

// one is a text of one byte.
func one(c int) string { return string([]byte{byte(c)}) }

func check(t *testing.T, p []api.Piece, s string, means bool) {
	t.Helper()
	if got := pattern.Match(p, s); got != means {
		t.Errorf("Match(%+v, %.40q) is %v", p, s, got)
	}
}

// checkBytes holds a pattern against all texts of one byte: it means those of want, and no other.
func checkBytes(t *testing.T, p []api.Piece, want string) {
	t.Helper()
	for c := range 256 {
		check(t, p, one(c), strings.IndexByte(want, byte(c)) >= 0)
	}
	check(t, p, "", false)
	for _, s := range []string{"ab", want + want, "[]", "\x00\x00"} {
		check(t, p, s, len(s) == 1 && strings.Contains(want, s))
	}
}

// bytesFrom has all bytes from the first to the last one.
func bytesFrom(first, last int) string {
	var b strings.Builder
	for c := first; c <= last; c++ {
		b.WriteByte(byte(c))
	}
	return b.String()
}

// but has all bytes but those of s.
func but(s string) string {
	var b strings.Builder
	for c := range 256 {
		if strings.IndexByte(s, byte(c)) < 0 {
			b.WriteByte(byte(c))
		}
	}
	return b.String()
}

// P8.1: a byte that is Quoted means itself, whatever it is; of others `?`, `*` alone don't (a `[` that stands alone begins no set).
func TestEachByte(t *testing.T) {
	for c := range 256 {
		checkBytes(t, pieces(q(one(c))), one(c))
		switch c {
		case '?':
			checkBytes(t, texts("?"), but(""))
		case '*':
			for _, s := range []string{"", "a", "*", "ab", "\xff\x00\n"} {
				check(t, texts("*"), s, true)
			}
		default:
			checkBytes(t, texts(one(c)), one(c))
		}
	}
}

// P8.1
func TestMatch(t *testing.T) {
	for _, c := range []struct {
		p            string
		means, other []string
	}{
		{"", []string{""}, []string{"a", " ", "\x00"}},
		{"ab", []string{"ab"}, []string{"", "a", "b", "abc", "aab", "AB", "ab\x00", "xab"}},
		{"??", []string{"ab", "??", "\xff\x00", "é"}, []string{"", "a", "abc", "éa"}},
		{"a?c", []string{"abc", "a?c", "a\nc"}, []string{"ac", "abbc", "abd", "xbc"}},
		{"*?", []string{"a", "ab", "abc"}, []string{""}},
		{"?*", []string{"a", "ab", "abc"}, []string{""}},
		{"a*", []string{"a", "ab", "aa"}, []string{"", "b", "ba"}},
		{"*a", []string{"a", "ba", "aa", "aba"}, []string{"", "b", "ab"}},
		{"*a*", []string{"a", "xa", "ax", "xax"}, []string{"", "b"}},
		{"a*b", []string{"ab", "axb", "abab", "abb"}, []string{"a", "b", "aba", "xab", "ba"}},
		{"*ab", []string{"ab", "aab", "abab", "aabab"}, []string{"aba", "b", "a"}},
		{"*aab", []string{"aaab", "aab", "aabaab", "aaaab"}, []string{"ab", "aabab", "aaba"}},
		{"a*b*c", []string{"abc", "axbxc", "abcbc", "abbcc"}, []string{"acb", "abca", "ac", "abcb"}},
		{"*a?b*", []string{"aab", "xaxbx", "aaabb"}, []string{"ab", "axxb", "ba", "abab"}},
		{"****", []string{"", "a", "abc"}, nil},
		{"a**b", []string{"ab", "axb"}, []string{"a", "abx"}},
		{"**?**", []string{"a", "ab"}, []string{""}},
		{"*[ab]*[cd]", []string{"ac", "bd", "xaxc", "acbd"}, []string{"ca", "a", "c", "acx"}},
		{"]", []string{"]"}, []string{"", "[", "]]"}},
		{"!", []string{"!"}, []string{"", "a"}},
		{"-", []string{"-"}, []string{"", "a"}},
		{"a-c", []string{"a-c"}, []string{"b", "a", "c"}},
		{"\\*", []string{"\\", "\\a", "\\*"}, []string{"*", ""}},
		{"^", []string{"^"}, []string{"a"}},
	} {
		for _, s := range c.means {
			check(t, texts(c.p), s, true)
		}
		for _, s := range c.other {
			check(t, texts(c.p), s, false)
		}
	}
}

// P8.1: a `[` that begins no set means itself, and what follows it means what it means.
func TestNoSet(t *testing.T) {
	for _, c := range []struct {
		p            string
		means, other []string
	}{
		{"[", []string{"["}, []string{"", "a", "[["}},
		{"[[", []string{"[["}, []string{"[", "", "[a"}},
		{"[]", []string{"[]"}, []string{"", "]", "["}},
		{"[]]", []string{"]"}, []string{"[]]", "", "["}},
		{"[!]", []string{"[!]"}, []string{"a", "!", "]"}},
		{"[!", []string{"[!"}, []string{"[", "a"}},
		{"[!]]", []string{"a", "!", "["}, []string{"]", "[!]]", ""}},
		{"[a", []string{"[a"}, []string{"a", "["}},
		{"[a-", []string{"[a-"}, []string{"a", "-"}},
		{"[a-z", []string{"[a-z"}, []string{"b"}},
		{"[]-", []string{"[]-"}, []string{"]", "-"}},
		{"[!a", []string{"[!a"}, []string{"b", "[b"}},
		{"[*", []string{"[", "[a", "[]"}, []string{"", "a["}},
		{"[?", []string{"[a", "[["}, []string{"[", "a", "[ab"}},
		{"[]*", []string{"[]", "[]x"}, []string{"[", "]"}},
		{"[]?", []string{"[]x"}, []string{"[]", "]"}},
		{"a]", []string{"a]"}, []string{"a", "]"}},
		{"]a[", []string{"]a["}, []string{"a", ""}},
		{"[a][", []string{"a["}, []string{"a", "[a]["}},
		{"[a][]", []string{"a[]"}, []string{"a]", "a"}},
		{"[][]", []string{"]", "["}, []string{"[][]", "[]", ""}},
		{"[![]", []string{"a", "]", "!"}, []string{"[", ""}},
		{"[[a]", []string{"[", "a"}, []string{"[a", "]"}},
		{"[[a]]", []string{"[]", "a]"}, []string{"a", "[[a]]"}},
		{"[a]]", []string{"a]"}, []string{"a", "]", "]]"}},
		{"[*]", []string{"*"}, []string{"a", "", "**"}},
		{"[?]", []string{"?"}, []string{"a", ""}},
		{"[?*]*?", []string{"?a", "*ab"}, []string{"a", "ab", "?", "*"}},
		{"[[:alpha:]]", []string{"a]", ":]", "[]"}, []string{"b", "b]", "a"}},
	} {
		for _, s := range c.means {
			check(t, texts(c.p), s, true)
		}
		for _, s := range c.other {
			check(t, texts(c.p), s, false)
		}
	}
}

// P8.2: the bytes that a set means, of all 256.
func TestSets(t *testing.T) {
	for p, want := range map[string]string{
		"[a]": "a", "[abc]": "abc", "[aa]": "a", "[a-c]": "abc", "[a-a]": "a", "[c-a]": "", "[b-a]": "",
		"[a-cx-z]": "abcxyz", "[a-cb-d]": "abcd", "[ac-a]": "a", "[c-ab]": "b",
		"[-]": "-", "[--]": "-", "[---]": "-", "[----]": "-", "[-a]": "-a", "[a-]": "a-", "[-a-]": "-a", "[a--]": "", "[+--]": "+,-",
		"[--/]": "-./", "[---/]": "-/", "[a-b-d]": "ab-d", "[a-b-]": "ab-", "[a-b--]": "ab-", "[a-b---]": "ab-", "[a-c-e-g]": "abc-efg",
		"[!a]": but("a"), "[!!]": but("!"), "[!!!]": but("!"), "[!-a]": but("-a"), "[!a-c]": but("abc"), "[!c-a]": but(""), "[!-]": but("-"),
		"[!--]": but("-"), "[!!-#]": but("!\"#"), "[a!]": "a!", "[a-c!]": "abc!", "[-!]": "-!", "[ -!]": " !",
		"[]]": "]", "[]a]": "]a", "[]-a]": "]^_`a", "[]-]": "]-", "[]-[]": "", "[]--]": "", "[!]]": but("]"), "[!]a]": but("]a"), "[!]-a]": but("]^_`a"),
		"[!]-]": but("]-"), "[[]": "[", "[[-a]": "[\\]^_`a", "[a-[]": "", "[Z-[]": "Z[", "[![]": but("["), "[]!]": "]!", "[]!-#]": "]!\"#",
		"[\x00-\xff]": but(""), "[!\x00-\xff]": "", "[\xff-\x00]": "", "[\xff]": "\xff", "[\x00]": "\x00", "[\xf0-\xff]": bytesFrom(240, 255),
		"[\x00-\x10]": bytesFrom(0, 16), "[\xff-\xff]": "\xff", "[\x00-\x00]": "\x00", "[\x7f-\x80]": "\x7f\x80", "[!\x01-\xfe]": "\x00\xff",
		"[a-\xff]": bytesFrom('a', 255), "[é]": "\xc3\xa9", "[A-Z]": "ABCDEFGHIJKLMNOPQRSTUVWXYZ", "[^a]": "^a", "[\\]": "\\", "[$`\"']": "$`\"'",
		"[*?]": "*?", "[*-?]": bytesFrom('*', '?'), "[a,c]": "a,c", "[ \n]": " \n",
	} {
		checkBytes(t, texts(p), want)
	}
}

// P8.2: of each two bytes a range has those from the one to the other, be they what they may.
func TestRanges(t *testing.T) {
	for first := range 256 {
		for last := range 256 {
			p := pieces(u("["), q(one(first)), u("-"), q(one(last)), u("]"))
			for _, c := range []int{0, first - 1, first, first + 1, last - 1, last, last + 1, 255} {
				if 0 <= c && c <= 255 {
					check(t, p, one(c), first <= c && c <= last)
				}
			}
		}
	}
}

// P8.2: a member may be any byte, Quoted or not, but an end where one may stand, and a `!` ahead of the first one.
func TestEachMember(t *testing.T) {
	for c := range 256 {
		s := one(c)
		checkBytes(t, pieces(u("["), q(s), u("]")), s)
		checkBytes(t, pieces(u("[!"), q(s), u("]")), but(s))
		checkBytes(t, pieces(u("[a"), q(s), u("]")), "a"+s)
		checkBytes(t, pieces(u("[!a"), q(s), u("]")), but("a"+s))
		if c != ']' {
			checkBytes(t, texts("[!"+s+"]"), but(s))
			checkBytes(t, texts("[a"+s+"]"), "a"+s)
		}
		if c != ']' && c != '!' {
			checkBytes(t, texts("["+s+"]"), s)
		}
	}
}

// P8.1, P8.2: a Quoted byte means itself, begins no set, ends none, and makes neither a range nor a set of others.
func TestQuoted(t *testing.T) {
	for _, c := range []struct {
		p            []api.Piece
		means, other []string
	}{
		{pieces(q("?*")), []string{"?*"}, []string{"a", "ab", "?"}},
		{pieces(q("[a]")), []string{"[a]"}, []string{"a"}},
		{pieces(q("["), u("a]")), []string{"[a]"}, []string{"a"}},
		{pieces(u("[a"), q("]")), []string{"[a]"}, []string{"a", "]"}},
		{pieces(u("[a"), q("]"), u("]")), []string{"a", "]"}, []string{"[a]]", "a]"}},
		{pieces(u("["), q("]"), u("]")), []string{"]"}, []string{"[]]", "["}},
		{pieces(u("["), q("]")), []string{"[]"}, []string{"]"}},
		{pieces(u("[]"), q("]"), u("]")), []string{"]"}, []string{"[]]]", "]]"}},
		{pieces(u("["), q("]"), u("a]")), []string{"]", "a"}, []string{"[]a]"}},
		{pieces(u("["), q("!"), u("a]")), []string{"!", "a"}, []string{"b", "]"}},
		{pieces(u("["), q("!"), u("]")), []string{"!"}, []string{"[!]", "a"}},
		{pieces(u("["), q("!"), u("]a]")), []string{"!a]"}, []string{"!", "a", "b"}},
		{pieces(u("[!"), q("!"), u("]")), []string{"a", "]"}, []string{"!", ""}},
		{pieces(u("[!"), q("]"), u("]")), []string{"a", "!"}, []string{"]", "[!]]"}},
		{pieces(u("[a"), q("-"), u("c]")), []string{"a", "-", "c"}, []string{"b"}},
		{pieces(u("[a-"), q("]"), u("]")), nil, []string{"a", "-", "]", "Z", "a]", "-]"}},
		{pieces(u("[A-"), q("]"), u("]")), []string{"A", "Z", "[", "\\", "]"}, []string{"-", "^", "a"}},
		{pieces(u("["), q("a"), u("-"), q("c"), u("]")), []string{"a", "b", "c"}, []string{"-", "d"}},
		{pieces(u("[a-"), q("-"), u("]")), nil, []string{"a", "-", "b"}},
		{pieces(u("["), q("-"), u("-"), q("/"), u("]")), []string{"-", ".", "/"}, []string{","}},
		{pieces(u("["), q("-"), q("-"), u("/]")), []string{"-", "/"}, []string{"."}},
		{pieces(u("["), q("[")), []string{"[["}, []string{"["}},
		{pieces(u("["), q("*?"), u("]")), []string{"*", "?"}, []string{"a", ""}},
		{pieces(u("["), q("abc"), u("]")), []string{"a", "b", "c"}, []string{"abc", "["}},
		{pieces(u("a"), q("*"), u("*")), []string{"a*", "a*b"}, []string{"a", "ab"}},
		{pieces(u("*"), q("*")), []string{"*", "a*"}, []string{"a", ""}},
		{pieces(q("a"), u("?"), q("?")), []string{"ab?", "a??"}, []string{"abc", "a?"}},
	} {
		for _, s := range c.means {
			check(t, c.p, s, true)
		}
		for _, s := range c.other {
			check(t, c.p, s, false)
		}
	}
}

// P8.1: pieces' bytes stand one behind the other, wherever a piece ends; those with a Cut are passed over.
func TestPieces(t *testing.T) {
	for _, c := range []struct {
		p     []api.Piece
		s     string
		means bool
	}{
		{nil, "", true},
		{nil, "a", false},
		{pieces(), "", true},
		{pieces(u("")), "", true},
		{pieces(q("")), "", true},
		{pieces(q(""), u(""), u("")), "a", false},
		{pieces(cut("")), "", true},
		{pieces(cut("a")), "", true},
		{pieces(cut("a")), "a", false},
		{pieces(cut("*")), "a", false},
		{pieces(api.Piece{Text: "a", Cut: true, Quoted: true}), "", true},
		{pieces(api.Piece{Text: "a", Cut: true, Quoted: true}), "a", false},
		{pieces(u("a"), u("b"), q("c")), "abc", true},
		{pieces(u("a"), cut("x"), u("b")), "ab", true},
		{pieces(u("a"), cut("x"), u("b")), "axb", false},
		{pieces(u("["), u("a"), u("-"), u("c"), u("]")), "b", true},
		{pieces(u("["), u("!"), u("a"), u("]")), "b", true},
		{pieces(u("["), u("!"), u("a"), u("]")), "a", false},
		{pieces(u("[a-"), cut("]"), q(""), u("c]")), "b", true},
		{pieces(u("["), cut("!"), u("a]")), "a", true},
		{pieces(u("["), q(""), u("!"), q(""), u("a]")), "a", false},
		{pieces(u("[a"), cut("]")), "a", false},
		{pieces(u("[a"), cut("]")), "[a", true},
	} {
		check(t, c.p, c.s, c.means)
	}
}

// P8.3
func TestPlain(t *testing.T) {
	for _, s := range []string{"", "a", "abc", "]", "!", "-", "a]", "a-c]", "[", "[[", "[]", "[!]", "[!", "[a", "[a-", "[]-", "[]a", "\\", "\xff\x00", "^", "a b\n"} {
		if !pattern.Plain(texts(s)) {
			t.Errorf("%q is plain", s)
		}
	}
	for _, s := range []string{"*", "?", "a*", "?a", "[a]", "[]]", "[!a]", "[!]]", "[a-c]", "[c-a]", "x[a]", "[a]x", "[*", "[]?", "[][]", "[[a]", "a[!b]c", "[a][", "\\*", "**"} {
		if pattern.Plain(texts(s)) {
			t.Errorf("%q isn't plain", s)
		}
	}
	for _, p := range [][]api.Piece{nil, pieces(), pieces(cut("*")), pieces(q("*")), pieces(q("?[a]")), pieces(q("["), u("a]")), pieces(u("[a"), q("]")), pieces(u("["), q("]")), pieces(u("[a"), cut("]")), pieces(u("[!"), q("]")), pieces(u("["), q("!]"))} {
		if !pattern.Plain(p) {
			t.Errorf("%+v is plain", p)
		}
	}
	for _, p := range [][]api.Piece{pieces(q("a"), u("*")), pieces(u("?"), q("a")), pieces(u("["), q("]"), u("]")), pieces(u("["), q("!"), u("]")), pieces(u("["), cut("x"), u("a"), u("]")), pieces(u("[!"), q("]"), u("]"))} {
		if pattern.Plain(p) {
			t.Errorf("%+v isn't plain", p)
		}
	}
	for c := range 256 {
		if got := pattern.Plain(texts(one(c))); got != (c != '*' && c != '?') {
			t.Errorf("Plain of %q is %v", one(c), got)
		}
		if !pattern.Plain(pieces(q(one(c)))) {
			t.Errorf("a Quoted %q is plain", one(c))
		}
	}
}

// P8.3
func TestLiteral(t *testing.T) {
	for _, s := range []string{"", "a", "a*", "?", "[a-c]", "[!]]", "\x00\xff", strings.Repeat("*", 1<<16)} {
		p := pattern.Literal(s)
		if !slices.Equal(p, pieces(q(s))) {
			t.Errorf("Literal(%.40q) is %.99s", s, fmt.Sprint(p))
		}
		if !pattern.Plain(p) || !pattern.Match(p, s) || pattern.Match(p, s+"a") {
			t.Errorf("the pattern of %.40q means another", s)
		}
		p[0] = u("x")
		if again := pattern.Literal(s); !slices.Equal(again, pieces(q(s))) {
			t.Errorf("Literal(%.40q) is another for what was written into the one before", s)
		}
	}
}

// P8.1: what is handed in is not changed, spare room included.
func TestUnchanged(t *testing.T) {
	room := pieces(u("[a"), cut("x"), q("-"), u("c]*"), u("?"), q("spare"))
	before := slices.Clone(room)
	pattern.Match(room[:4], "abc")
	pattern.Plain(room[:5])
	if !slices.Equal(room, before) {
		t.Errorf("the pieces are %+v now", room)
	}
}

// P1, P8.1, P8.2: long patterns and texts end, and mean what short ones do.
func TestLong(t *testing.T) {
	const n = 1 << 16
	long := strings.Repeat("a", n)
	for _, c := range []struct {
		p, s  string
		means bool
	}{
		{long, long, true},
		{long, long + "a", false},
		{long + "a", long, false},
		{strings.Repeat("?", n), long, true},
		{strings.Repeat("?", n), long + "a", false},
		{strings.Repeat("*", n), long, true},
		{strings.Repeat("*", n) + "b", long, false},
		{strings.Repeat("*a", n), long, true},
		{strings.Repeat("*a", n) + "*", long, true},
		{strings.Repeat("*a", n+1), long, false},
		{strings.Repeat("*a", n/2) + "b", long, false},
		{strings.Repeat("a*", n/2) + "b", long + "b", true},
		{strings.Repeat("*?", n), long, true},
		{strings.Repeat("[", n), strings.Repeat("[", n), true},
		{strings.Repeat("[", n) + "]", "[", true},
		{strings.Repeat("[]", n), "[", false},
		{strings.Repeat("[!", n), strings.Repeat("[!", n), true},
		{strings.Repeat("[a-c]", n/4), strings.Repeat("b", n/4), true},
		{strings.Repeat("[!a-c]", n/4), strings.Repeat("b", n/4), false},
		{"[" + strings.Repeat("a-c", n) + "]", "b", true},
		{"[!" + long + "]", "a", false},
		{"*" + strings.Repeat("a", 100) + "b", long + "b", true},
		{"*" + strings.Repeat("a", 100) + "b", long, false},
	} {
		if got := pattern.Match(texts(c.p), c.s); got != c.means {
			t.Errorf("Match(%.20q.., %.20q..) is %v", c.p, c.s, got)
		}
	}
	many := make([]api.Piece, n)
	for i := range many {
		many[i] = api.Piece{Text: "a", Quoted: i%2 == 0}
	}
	check(t, many, long, true)
}
