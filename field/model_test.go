package field_test

import (
	"math/rand/v2"
	"strings"
	"testing"

	"deadfall/api"
)

// What stands in a row of pieces, in this second reading of the chapter: bytes, what parts fields, and where a Quoted piece is.
const (
	parting = -1
	quoted  = -2
)

// laid is all that stands in pieces, one behind the other.
func laid(l []api.Piece) []int {
	var all []int
	for _, p := range l {
		if p.Cut {
			all = append(all, parting)
			continue
		}
		if p.Quoted {
			all = append(all, quoted)
		}
		for _, c := range []byte(p.Text) {
			if !p.Quoted && strings.IndexByte(" \t\n", c) >= 0 {
				all = append(all, parting)
			} else {
				all = append(all, int(c))
			}
		}
	}
	return all
}

// between are the stretches ahead of, between and behind all that parts fields: one more than these.
func between(all []int) [][]int {
	l := [][]int{nil}
	for _, x := range all {
		if x == parting {
			l = append(l, nil)
		} else {
			l[len(l)-1] = append(l[len(l)-1], x)
		}
	}
	return l
}

// split are the fields: one of each stretch in which something stands.
func split(l []api.Piece) []string {
	var all []string
	for _, stretch := range between(laid(l)) {
		var b []byte
		for _, x := range stretch {
			if x != quoted {
				b = append(b, byte(x))
			}
		}
		if len(stretch) > 0 {
			all = append(all, string(b))
		}
	}
	return all
}

// join is the text, put together from the end on.
func join(l []api.Piece) string {
	if len(l) == 0 {
		return ""
	}
	last := l[len(l)-1]
	if last.Cut {
		return join(l[:len(l)-1]) + " "
	}
	return join(l[:len(l)-1]) + last.Text
}

func hold(t *testing.T, l []api.Piece) {
	t.Helper()
	check(t, l, split(l)...)
	checkText(t, l, join(l))
}

// P10.1, P10.2: all lists of at most four short pieces, against the second reading.
func TestShortLists(t *testing.T) {
	some := pieces(cut, api.Piece{Text: "a ", Quoted: true, Cut: true})
	for _, s := range []string{"", "a", " ", "\n", " a", "a ", "a\tb", "  "} {
		some = append(some, u(s), q(s))
	}
	var longer func(l []api.Piece)
	longer = func(l []api.Piece) {
		hold(t, l)
		if len(l) == 4 || t.Failed() {
			return
		}
		for _, p := range some {
			longer(append(l[:len(l):len(l)], p))
		}
	}
	longer(nil)
}

// P10.1, P10.2: pieces of any bytes, by chance, against the second reading.
func TestThrown(t *testing.T) {
	r := rand.New(rand.NewPCG(10, 1))
	text := func() string {
		b := make([]byte, r.IntN(8))
		for i := range b {
			b[i] = " \t\nabc\x00\x0b\r\xa0\xff"[r.IntN(11)]
			if r.IntN(10) == 0 {
				b[i] = byte(r.IntN(256))
			}
		}
		return string(b)
	}
	for range 20000 {
		l := make([]api.Piece, r.IntN(12))
		for i := range l {
			l[i] = api.Piece{Text: text(), Quoted: r.IntN(3) == 0, Cut: r.IntN(5) == 0}
		}
		hold(t, l)
		if t.Failed() {
			return
		}
	}
}
