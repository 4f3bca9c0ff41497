package pattern_test

import (
	"math/rand/v2"
	"strings"
	"testing"

	"deadfall/api"
	"deadfall/pattern"
)

// mark is a byte of a pattern, in this second reading of the chapter.
type mark struct {
	c      byte
	quoted bool
}

func marks(p []api.Piece) []mark {
	var l []mark
	for _, x := range p {
		for _, c := range []byte(x.Text) {
			if !x.Cut {
				l = append(l, mark{c, x.Quoted})
			}
		}
	}
	return l
}

// setOf tells what the set has that the pattern begins with, and how long it is; 0, if none does.
func setOf(p []mark) (has [256]bool, not bool, long int) {
	if p[0] != (mark{'[', false}) {
		return has, false, 0
	}
	at := 1
	if at < len(p) && p[at] == (mark{'!', false}) {
		not = true
		at++
	}
	for members := 0; at < len(p); members++ {
		if members > 0 && p[at] == (mark{']', false}) {
			return has, not, at + 1
		}
		if at+2 < len(p) && p[at+1] == (mark{'-', false}) && p[at+2] != (mark{']', false}) {
			for c := range 256 {
				has[c] = has[c] || int(p[at].c) <= c && c <= int(p[at+2].c)
			}
			at += 3
		} else {
			has[p[at].c] = true
			at++
		}
	}
	return has, false, 0
}

// means tells by trying all that a pattern may be whether it means a text.
func means(p []mark, s string) bool {
	if len(p) == 0 {
		return s == ""
	}
	if p[0] == (mark{'*', false}) {
		for i := range len(s) + 1 {
			if means(p[1:], s[i:]) {
				return true
			}
		}
		return false
	}
	if s == "" {
		return false
	}
	if has, not, long := setOf(p); long > 0 {
		return has[s[0]] != not && means(p[long:], s[1:])
	}
	return (p[0] == (mark{'?', false}) || p[0].c == s[0]) && means(p[1:], s[1:])
}

// plainly tells whether a pattern has neither `?`, `*` nor a set.
func plainly(p []mark) bool {
	for i, m := range p {
		if _, _, long := setOf(p[i:]); long > 0 || m == (mark{'?', false}) || m == (mark{'*', false}) {
			return false
		}
	}
	return true
}

func hold(t *testing.T, p []api.Piece, s string) {
	t.Helper()
	l := marks(p)
	if got := pattern.Match(p, s); got != means(l, s) {
		t.Fatalf("Match(%+v, %q) is %v", p, s, got)
	}
	if got := pattern.Plain(p); got != plainly(l) {
		t.Fatalf("Plain(%+v) is %v", p, got)
	}
}

// P8.1, P8.2, P8.3: all patterns of at most five of these signs, and, of fewer signs, of six.
func TestAllShort(t *testing.T) {
	alphabet := []string{"[", "]", "!", "-", "a", "c", "*"}
	held := []string{"", "[", "]", "!", "-", "a", "b", "c", "[]", "[!]", "ab", "b]", "[a-c", "[!a-c"}
	var all func(p string, left int)
	all = func(p string, left int) {
		for _, s := range held {
			hold(t, texts(p), s)
		}
		hold(t, texts(p), p)
		if left > 0 {
			for _, c := range alphabet {
				all(p+c, left-1)
			}
		}
	}
	all("", 5)
	alphabet = []string{"[", "]", "!", "-", "a"}
	all("[", 5)
}

// thrown is a pattern of signs as they come, in pieces as they come.
func thrown(r *rand.Rand, signs string, longest int) []api.Piece {
	var p []api.Piece
	for range r.IntN(longest) {
		var b strings.Builder
		for range r.IntN(4) {
			b.WriteByte(signs[r.IntN(len(signs))])
		}
		p = append(p, api.Piece{Text: b.String(), Quoted: r.IntN(3) == 0, Cut: r.IntN(12) == 0})
	}
	return p
}

// near is a text that a pattern may well mean: each byte of it as it stands, or another, or more, or none.
func near(r *rand.Rand, p []mark) string {
	var b strings.Builder
	for at := 0; at < len(p); at++ {
		has, not, long := setOf(p[at:])
		switch {
		case long > 0:
			c := byte(r.IntN(256))
			for range 50 {
				if has[c] != not {
					break
				}
				c = "abc-![]*?"[r.IntN(9)]
			}
			b.WriteByte(c)
			at += long - 1
		case p[at] == (mark{'*', false}):
			for range r.IntN(3) {
				b.WriteByte("abc-![]*?"[r.IntN(9)])
			}
		case p[at] == (mark{'?', false}) || r.IntN(20) == 0:
			b.WriteByte("abc-![]*?"[r.IntN(9)])
		default:
			b.WriteByte(p[at].c)
		}
	}
	return b.String()
}

// P8.1, P8.2, P8.3: patterns as they come, Quoted here and there.
func TestThrown(t *testing.T) {
	r := rand.New(rand.NewPCG(8, 1))
	meant := 0
	for i := range 60000 {
		signs := []string{"[]!-ac*?", "[]!-a", "ab*", "[]a-c\xff\x00", "a?*b[c]"}[i%5]
		p := thrown(r, signs, 7)
		s := near(r, marks(p))
		hold(t, p, s)
		if means(marks(p), s) {
			meant++
		}
		var b strings.Builder
		for range r.IntN(6) {
			b.WriteByte(signs[r.IntN(len(signs))])
		}
		hold(t, p, b.String())
	}
	if meant < 20000 {
		t.Errorf("of 60000 texts only %d were meant: near throws too far", meant)
	}
}

// P8.1: patterns of few signs with many `*`, and texts of few signs.
func TestManyWays(t *testing.T) {
	r := rand.New(rand.NewPCG(8, 2))
	for range 30000 {
		var p, s strings.Builder
		for range r.IntN(9) {
			p.WriteString([]string{"a", "b", "*", "?", "[ab]", "[!a]"}[r.IntN(6)])
		}
		for range r.IntN(10) {
			s.WriteByte("ab"[r.IntN(2)])
		}
		hold(t, texts(p.String()), s.String())
	}
}
