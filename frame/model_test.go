package frame_test

import (
	"math/rand"
	"reflect"
	"slices"
	"strings"
	"testing"

	"deadfall/frame"
)

// model is a second reading of the chapter: the items, the uppermost one first, cut into those above the uppermost wall, and the rest.
type model []frame.Item

// letters has for each kind, from 0 on, L if it is a loop, B, C or O if it is a wall, and else a dot.
const letters = "......LLLB..CO."

// signs is a letter of each item, the uppermost one first.
func (m model) signs() string {
	var b strings.Builder
	for _, x := range m {
		b.WriteByte(letters[x.Kind])
	}
	return b.String()
}

// open is the signs above the uppermost wall.
func (m model) open() string {
	s := m.signs()
	if i := strings.IndexAny(s, "BCO"); i >= 0 {
		return s[:i]
	}
	return s
}

// behind is what is left when the n-th loop from above goes, with all above it, and that loop.
func (m model) behind(n int) (model, frame.Item, bool) {
	pieces := strings.Split(m.open(), "L")
	if n < 1 || n >= len(pieces) {
		return m, frame.Item{}, false
	}
	at := len(strings.Join(pieces[:n], "L"))
	return slices.Clone(m[at+1:]), m[at], true
}

// goneOn is what is left when that loop goes on.
func (m model) goneOn(n int) (model, bool) {
	left, x, ok := m.behind(n)
	if !ok {
		return m, false
	}
	if x.Kind != next {
		x = frame.Item{Kind: again, Node: x.Node, Free: x.Free}
	}
	return append(model{x}, left...), true
}

// returned is what is left when a function ends, and its Back.
func (m model) returned() (model, frame.Item, bool) {
	at := len(m.open())
	if at == len(m) || m[at].Kind != back {
		return m, frame.Item{}, false
	}
	return slices.Clone(m[at+1:]), m[at], true
}

// saved is the status ahead of an action.
func (m model) saved() (int, bool) {
	if at := strings.IndexAny(m.signs(), "CO"); at >= 0 {
		return m[at].Status, true
	}
	return 0, false
}

// same: what the Stack tells is what the model does.
func same(t *testing.T, s *frame.Stack, m model) {
	t.Helper()
	low := slices.Clone(m)
	slices.Reverse(low)
	has(t, s, low...)
	if got, want := s.Loops(), strings.Count(m.open(), "L"); got != want {
		t.Errorf("%d loops, not %d", got, want)
	}
	n, ok := s.Saved()
	if want, there := m.saved(); n != want || ok != there {
		t.Errorf("%d is saved, %v, not %d, %v", n, ok, want, there)
	}
}

// tried does one of the calls that may be refused to both, and says whether they answered the same.
func tried(s *frame.Stack, m model, call, n int) (model, bool) {
	switch call {
	case 0:
		left, _, want := m.behind(n)
		return left, s.Break(n) == want
	case 1:
		left, want := m.goneOn(n)
		return left, s.Continue(n) == want
	case 2:
		left, wall, want := m.returned()
		x, ok := s.Return()
		return left, ok == want && reflect.DeepEqual(x, wall)
	}
	x, ok := s.Pop()
	if len(m) == 0 {
		return m, !ok && reflect.DeepEqual(x, frame.Item{})
	}
	return slices.Clone(m[1:]), ok && reflect.DeepEqual(x, m[0])
}

// P15.1, P15.2, P15.3: calls as they happen to come, held against the model.
func TestModel(t *testing.T) {
	for seed := range int64(600) {
		r := rand.New(rand.NewSource(seed))
		var s frame.Stack
		var m model
		for i := range 30 {
			if r.Intn(40) == 0 {
				s.Clear()
				m = nil
			}
			var l []frame.Item
			for range r.Intn(4) {
				x := item(r.Intn(15), i)
				l, m = append(l, x), append(model{x}, m...)
			}
			s.Push(l...)
			same(t, &s, m)
			var ok bool
			call, n := r.Intn(4), r.Intn(6)-1
			if m, ok = tried(&s, m, call, n); !ok {
				t.Errorf("call %d of %d answers otherwise", call, n)
			}
			same(t, &s, m)
			if t.Failed() {
				t.Fatalf("seed %d, round %d", seed, i)
			}
		}
	}
}
