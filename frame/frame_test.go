package frame_test

import (
	"math"
	"reflect"
	"slices"
	"testing"

	"deadfall/api"
	"deadfall/frame"
)

// Short names of the kinds, by their numbers, for the rows below.
const (
	do, rest, then, turn, test, cond, again, next, back, await, wait, calm, over, check = 1, 2, 3, 4, 5, 6, 7, 8, 9, 10, 11, 12, 13, 14
)

// others are numbers that are no kinds: among them such as a conversion to fewer bits, or a table, takes for one.
var others = []int{0, -1, -6, -12, 15, 16, 22, 70, 73, 134, 262, 265, 268, 269, 1<<32 + 6, 1<<32 + 9, 1<<32 + 13, math.MaxInt, math.MinInt, math.MinInt + 6}

// item is an item of a kind, by which all that it has can be told from that of others.
func item(kind, i int) frame.Item {
	name := string(rune('a' + i%26))
	n := api.Node{Kind: api.For, Name: name, Kids: []api.Node{{Kind: api.Simple, Name: name}}}
	return frame.Item{Kind: kind, Node: n, At: 100 + i, Status: 200 + i, Free: i%2 == 0, Words: []string{name, "w"}, Pids: []int{i, 7}}
}

// items are items of these kinds.
func items(kinds ...int) []frame.Item {
	l := make([]frame.Item, len(kinds))
	for i, k := range kinds {
		l[i] = item(k, i)
	}
	return l
}

// of is a stack of items of these kinds, the last one uppermost.
func of(kinds ...int) *frame.Stack {
	s := &frame.Stack{}
	s.Push(items(kinds...)...)
	return s
}

// drain takes all items off, but no more than there should be by one, the lowest one first in what it answers.
func drain(s *frame.Stack, most int) []frame.Item {
	var l []frame.Item
	for range most + 1 {
		if x, ok := s.Pop(); ok {
			l = append(l, x)
		}
	}
	slices.Reverse(l)
	return l
}

// has: these items are there, and no others; it takes them off, and puts them back.
func has(t *testing.T, s *frame.Stack, want ...frame.Item) {
	t.Helper()
	if got := s.Len(); got != len(want) {
		t.Errorf("there are %d items, not %d", got, len(want))
	}
	kinds := make([]int, len(want))
	for i, x := range want {
		kinds[i] = x.Kind
	}
	if got := s.Kinds(); !slices.Equal(got, kinds) {
		t.Errorf("kinds are %v, not %v", got, kinds)
	}
	got := drain(s, len(want))
	s.Push(got...)
	if len(got) != len(want) {
		t.Fatalf("%d items are taken off, not %d", len(got), len(want))
	}
	for i := range want {
		if !reflect.DeepEqual(got[i], want[i]) {
			t.Errorf("item %d is %+v, not %+v", i, got[i], want[i])
		}
	}
}

// none: this answer says that there is no item.
func none(t *testing.T, what string, x frame.Item, ok bool) {
	t.Helper()
	if ok || !reflect.DeepEqual(x, frame.Item{}) {
		t.Errorf("%s is %+v, %v", what, x, ok)
	}
}

// Each kind has its number.
func TestKindNumbers(t *testing.T) {
	got := []int{frame.Do, frame.Rest, frame.Then, frame.Turn, frame.Test, frame.Cond, frame.Again, frame.Next, frame.Back, frame.Await, frame.Wait, frame.Calm, frame.Over, frame.Check}
	for i, k := range got {
		if k != i+1 {
			t.Errorf("kind %d is %d", i+1, k)
		}
	}
}

// P15.1, P15.2, P15.3: the zero Stack has no items.
func TestZero(t *testing.T) {
	var s frame.Stack
	x, ok := s.Top()
	none(t, "Top", x, ok)
	x, ok = s.Pop()
	none(t, "Pop", x, ok)
	x, ok = s.Return()
	none(t, "Return", x, ok)
	if n, ok := s.Saved(); n != 0 || ok {
		t.Errorf("Saved is %d, %v", n, ok)
	}
	for _, n := range []int{math.MinInt, -1, 0, 1, math.MaxInt} {
		if s.Break(n) || s.Continue(n) {
			t.Errorf("of none, %d loops end or go on", n)
		}
	}
	s.Clear()
	if s.Loops() != 0 {
		t.Error("there are loops")
	}
	has(t, &s)
}

// P15.1 Push: one upon the other, the last one uppermost, in one call or in several; none is nothing.
func TestPush(t *testing.T) {
	all := items(do, rest, then, turn, test, cond, again, next, back, await, wait, calm, over, check, do)
	for cut := range len(all) + 1 {
		var s frame.Stack
		s.Push(all[:cut]...)
		s.Push()
		s.Push(all[cut:]...)
		has(t, &s, all...)
	}
	var s frame.Stack
	for i, x := range all {
		s.Push(x)
		if got, ok := s.Top(); !ok || !reflect.DeepEqual(got, x) || s.Len() != i+1 {
			t.Errorf("behind Push %d, the uppermost is %+v, %v, of %d", i, got, ok, s.Len())
		}
	}
	has(t, &s, all...)
}

// P15.1: items are kept whatever numbers their fields have.
func TestPushAny(t *testing.T) {
	for _, k := range others {
		x := frame.Item{Kind: k, At: math.MinInt, Status: math.MaxInt, Words: []string{"", "\xff\x00"}, Pids: []int{-1, math.MaxInt}}
		var s frame.Stack
		s.Push(frame.Item{}, x)
		has(t, &s, frame.Item{}, x)
	}
}

// P15.1 Top: the uppermost one stays. Pop: it goes; both say when there is none.
func TestTopPop(t *testing.T) {
	all := items(do, cond, over, do)
	s := of(do, cond, over, do)
	for i := len(all) - 1; i >= 0; i-- {
		for range 2 {
			if x, ok := s.Top(); !ok || !reflect.DeepEqual(x, all[i]) || s.Len() != i+1 {
				t.Errorf("the top of %d is %+v, %v", i+1, x, ok)
			}
		}
		if x, ok := s.Pop(); !ok || !reflect.DeepEqual(x, all[i]) || s.Len() != i {
			t.Errorf("of %d, %+v, %v is popped", i+1, x, ok)
		}
	}
	for range 2 {
		x, ok := s.Pop()
		none(t, "Pop", x, ok)
		x, ok = s.Top()
		none(t, "Top", x, ok)
	}
	s.Push(all[0])
	has(t, s, all[0])
}

// P15.1 Clear: nothing is left, and what comes then is alone.
func TestClear(t *testing.T) {
	s := of(back, calm, cond, do)
	s.Clear()
	has(t, s)
	x, ok := s.Return()
	none(t, "Return", x, ok)
	if n, ok := s.Saved(); n != 0 || ok || s.Loops() != 0 {
		t.Errorf("Saved is %d, %v, and there are %d loops", n, ok, s.Loops())
	}
	s.Push(item(next, 1))
	has(t, s, item(next, 1))
}

// P15.2 Loops: a Cond, an Again and a Next are loops, nothing else is; a Back, a Calm and an Over are walls, nothing else is.
func TestLoopsByKind(t *testing.T) {
	loops, walls := []int{cond, again, next}, []int{back, calm, over}
	kinds := slices.Clone(others)
	for k := range 16 {
		kinds = append(kinds, k)
	}
	for _, k := range kinds {
		want := 0
		if slices.Contains(loops, k) {
			want = 1
		}
		if got := of(k).Loops(); got != want {
			t.Errorf("of a %d there are %d loops", k, got)
		}
		want += 2
		if slices.Contains(walls, k) {
			want = 1
		}
		if got := of(do, cond, k, again).Loops(); got != want {
			t.Errorf("with a %d between there are %d loops, not %d", k, got, want)
		}
	}
}

// P15.2 Loops: those above the uppermost wall alone.
func TestLoops(t *testing.T) {
	for i, x := range []struct {
		kinds []int
		want  int
	}{
		{nil, 0},
		{[]int{do, rest, then, turn, test, await, wait, check}, 0},
		{[]int{cond, again, next}, 3},
		{[]int{next, back, cond}, 1},
		{[]int{next, back, cond, do}, 1},
		{[]int{cond, cond, back}, 0},
		{[]int{cond, calm, do}, 0},
		{[]int{cond, over, next, next}, 2},
		{[]int{cond, back, cond, calm, cond, cond, cond}, 3},
		{[]int{cond, calm, cond, back, cond}, 1},
		{[]int{back, calm, over, again, do, again}, 2},
		{[]int{back, cond, do, next, rest, again, check}, 3},
	} {
		s := of(x.kinds...)
		if got := s.Loops(); got != x.want {
			t.Errorf("row %d: %d loops, not %d", i, got, x.want)
		}
		has(t, s, items(x.kinds...)...)
	}
}

// P15.2 Break: the n-th loop from above, and all above it, go; what is below stays as it was.
func TestBreak(t *testing.T) {
	kinds := []int{cond, do, back, rest, cond, do, again, then, next, check, do}
	for n, left := range map[int]int{1: 8, 2: 6, 3: 4} {
		s := of(kinds...)
		if !s.Break(n) {
			t.Errorf("Break of %d is false", n)
		}
		has(t, s, items(kinds...)[:left]...)
		if got := s.Loops(); got != 3-n {
			t.Errorf("behind Break of %d there are %d loops", n, got)
		}
	}
}

// P15.2 Continue: likewise, but the n-th loop stays: a Next whole, a Cond or an Again as an Again of Node and Free alone.
func TestContinue(t *testing.T) {
	kinds := []int{cond, do, back, rest, cond, again, do, again, then, next, cond, check, do}
	for n, at := range map[int]int{1: 10, 2: 9, 3: 7, 4: 5, 5: 4} {
		s := of(kinds...)
		if !s.Continue(n) {
			t.Errorf("Continue of %d is false", n)
		}
		want := items(kinds...)[:at+1]
		if want[at].Kind != next {
			want[at] = frame.Item{Kind: again, Node: want[at].Node, Free: want[at].Free}
		}
		has(t, s, want...)
		if got := s.Loops(); got != 6-n {
			t.Errorf("behind Continue of %d there are %d loops", n, got)
		}
	}
}

// P15.2 Continue: what was Free is, what wasn't isn't, and it can go on again.
func TestContinueFree(t *testing.T) {
	for _, k := range []int{cond, again} {
		for _, free := range []bool{false, true} {
			x := item(k, 3)
			x.Free = free
			var s frame.Stack
			s.Push(x, item(do, 4))
			for range 2 {
				if !s.Continue(1) {
					t.Error("Continue is false")
				}
				has(t, &s, frame.Item{Kind: again, Node: x.Node, Free: free})
			}
		}
	}
}

// P15.2: if n isn't from 1 to Loops, Break and Continue are false, and nothing changes.
func TestNoSuchLoop(t *testing.T) {
	for i, x := range []struct {
		kinds []int
		loops int
	}{
		{nil, 0},
		{[]int{do, rest, check}, 0},
		{[]int{next, back, cond}, 1},
		{[]int{cond, calm, do}, 0},
		{[]int{cond, over}, 0},
		{[]int{cond, do, again, next, do}, 3},
		{[]int{cond, cond, back, cond, cond}, 2},
	} {
		for _, n := range []int{math.MinInt, -256, -x.loops - 1, -1, 0, x.loops + 1, x.loops + 2, 1<<32 + 1, math.MaxInt} {
			s := of(x.kinds...)
			if s.Break(n) {
				t.Errorf("row %d: Break of %d is true", i, n)
			}
			has(t, s, items(x.kinds...)...)
			if s.Continue(n) {
				t.Errorf("row %d: Continue of %d is true", i, n)
			}
			has(t, s, items(x.kinds...)...)
		}
	}
}

// The example of the chapter.
func TestExample(t *testing.T) {
	s := of(next, back, cond)
	if s.Loops() != 1 || s.Break(2) {
		t.Errorf("%d loops", s.Loops())
	}
	has(t, s, items(next, back, cond)...)
	if !s.Break(1) {
		t.Error("Break of 1 is false")
	}
	has(t, s, items(next, back)...)
}

// P15.3 Return: the uppermost wall, if that is a Back: it goes, and all above it.
func TestReturn(t *testing.T) {
	for i, x := range []struct {
		kinds []int
		at    int
	}{
		{[]int{back}, 0},
		{[]int{do, back}, 1},
		{[]int{back, do, cond, next, again, check, await, wait, rest, then, turn, test}, 0},
		{[]int{back, cond, back, cond, do}, 2},
		{[]int{calm, over, back, do}, 2},
	} {
		s := of(x.kinds...)
		all := items(x.kinds...)
		if got, ok := s.Return(); !ok || !reflect.DeepEqual(got, all[x.at]) {
			t.Errorf("row %d: %+v, %v", i, got, ok)
		}
		has(t, s, all[:x.at]...)
	}
	s := of(back, do, back, do)
	s.Return()
	if x, ok := s.Return(); !ok || x.At != 100 || s.Len() != 0 {
		t.Errorf("the second one is %+v, %v", x, ok)
	}
}

// P15.3 Return: with another wall uppermost, or none, there is nothing, and nothing changes.
func TestNoReturn(t *testing.T) {
	for i, kinds := range [][]int{nil, {do}, {cond, next, do}, {calm}, {over}, {back, calm}, {back, over}, {back, calm, do, cond}, {back, do, over, do}, {back, back, calm, again}} {
		s := of(kinds...)
		x, ok := s.Return()
		none(t, "Return", x, ok)
		has(t, s, items(kinds...)...)
		if t.Failed() {
			t.Fatalf("row %d", i)
		}
	}
}

// P15.3 Saved: the Status of the uppermost Calm or Over, behind whatever is above it; nothing changes.
func TestSaved(t *testing.T) {
	for i, x := range []struct {
		kinds []int
		at    int
	}{
		{nil, -1},
		{[]int{do, rest, then, turn, test, cond, again, next, back, await, wait, check}, -1},
		{[]int{back}, -1},
		{[]int{calm}, 0},
		{[]int{over}, 0},
		{[]int{calm, over}, 1},
		{[]int{over, calm}, 1},
		{[]int{over, do, calm, back, do}, 2},
		{[]int{calm, do, over, back, cond, back}, 2},
		{[]int{do, over, do}, 1},
		{[]int{calm, do, calm, do, do, rest, wait, await, check}, 2},
	} {
		s := of(x.kinds...)
		n, ok := s.Saved()
		if want := 200 + x.at; x.at >= 0 && (n != want || !ok) {
			t.Errorf("row %d: %d, %v, not %d", i, n, ok, want)
		}
		if x.at < 0 && (n != 0 || ok) {
			t.Errorf("row %d: %d, %v", i, n, ok)
		}
		has(t, s, items(x.kinds...)...)
	}
	var s frame.Stack
	for _, n := range []int{0, -1, 255, math.MaxInt, math.MinInt} {
		s.Push(frame.Item{Kind: calm, Status: n})
		if got, ok := s.Saved(); got != n || !ok {
			t.Errorf("%d is saved, %v, not %d", got, ok, n)
		}
	}
}

// What is handed in may be written over behind the call, and is not written into, spare room included.
func TestPushedList(t *testing.T) {
	room := items(do, cond, next, back, over, calm)
	want := items(do, cond, next, back, over, calm)
	var s frame.Stack
	s.Push(room[:2]...)
	s.Push(item(rest, 9), item(then, 9))
	s.Pop()
	if !reflect.DeepEqual(room, want) {
		t.Errorf("what was handed in is %+v", room)
	}
	for i := range room {
		room[i] = item(check, 20)
	}
	has(t, &s, want[0], want[1], item(rest, 9))
}

// An answer is new memory: what is written into Kinds, and its spare room, is seen nowhere.
func TestKindsIsNew(t *testing.T) {
	s := of(do, cond, next)
	a, b := s.Kinds(), s.Kinds()
	for i := range a {
		a[i] = 99
	}
	for i := range a[:cap(a)] {
		a[:cap(a)][i] = 98
	}
	if !slices.Equal(b, []int{do, cond, next}) {
		t.Errorf("the other one is %v", b)
	}
	has(t, s, items(do, cond, next)...)
}

// What was answered stays as it was, whatever is done to the Stack then.
func TestAnswersStay(t *testing.T) {
	s := of(do, cond, back, next, do)
	top, _ := s.Top()
	kinds := s.Kinds()
	s.Continue(1)
	wall, _ := s.Return()
	s.Continue(1)
	s.Push(items(over, over, over, over)...)
	s.Clear()
	s.Push(items(calm, calm, calm)...)
	if !reflect.DeepEqual(top, item(do, 4)) || !reflect.DeepEqual(wall, item(back, 2)) || !slices.Equal(kinds, []int{do, cond, back, next, do}) {
		t.Errorf("%+v, %+v, %v", top, wall, kinds)
	}
}

// Two Stacks have nothing to do with each other, though their items come of one list.
func TestTwoStacks(t *testing.T) {
	room := make([]frame.Item, 0, 16)
	room = append(room, items(do, cond)...)
	var a, b frame.Stack
	a.Push(room...)
	b.Push(room...)
	a.Push(item(rest, 5))
	b.Push(item(then, 6))
	a.Continue(1)
	has(t, &a, item(do, 0), frame.Item{Kind: again, Node: item(cond, 1).Node})
	has(t, &b, item(do, 0), item(cond, 1), item(then, 6))
}

// There may be more than layer 19 lets be: the Stack itself has no limit.
func TestMany(t *testing.T) {
	var s frame.Stack
	const most = 5 * api.MaxStack
	for i := range most {
		s.Push(frame.Item{Kind: next, At: i})
	}
	if s.Len() != most || s.Loops() != most || s.Break(most+1) {
		t.Errorf("%d items, %d loops", s.Len(), s.Loops())
	}
	if !s.Break(most-1) || s.Len() != 1 {
		t.Errorf("%d items are left", s.Len())
	}
	if x, ok := s.Top(); !ok || x.Kind != next || x.At != 0 {
		t.Errorf("the lowest is %+v, %v", x, ok)
	}
}
