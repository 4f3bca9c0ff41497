package kern_test

import (
	"math/rand/v2"
	"slices"
	"testing"

	"deadfall/api"
	"deadfall/kern"
)

// one is a process of the second reading of the chapter: it stays in its row for ever, and says itself what it is.
type one struct {
	parent  int
	what    string // live, remains, gone
	status  int
	does    map[int]string // ignored, caught; default is not there
	waiting map[int]bool
}

// row has the process pid at the place pid; nobody has the place 0.
type row struct {
	l    []*one
	over []api.End
}

func newRow(ignored []int) *row {
	o := &one{what: "live", does: map[int]string{}, waiting: map[int]bool{}}
	for _, s := range ignored {
		if s >= 1 && s <= 31 && !slices.Contains(fixed, s) {
			o.does[s] = "ignored"
		}
	}
	return &row{l: []*one{{what: "gone"}, o}}
}

func (r *row) is(pid int, what string) bool {
	return pid > 0 && pid < len(r.l) && r.l[pid].what == what
}

func (r *row) count() int {
	n := 0
	for _, o := range r.l {
		if o.what != "gone" {
			n++
		}
	}
	return n
}

func (r *row) fork(pid int) (int, api.Errno) {
	if !r.is(pid, "live") {
		return 0, 3
	}
	if r.count() == 64 {
		return 0, 4
	}
	o := &one{parent: pid, what: "live", does: map[int]string{}, waiting: map[int]bool{}}
	for s, how := range r.l[pid].does {
		if how == "ignored" {
			o.does[s] = how
		}
	}
	r.l = append(r.l, o)
	return len(r.l) - 1, 0
}

func (r *row) exit(pid, status int) bool {
	if !r.is(pid, "live") {
		return false
	}
	for status < 0 {
		status += 256
	}
	for status > 255 {
		status -= 256
	}
	o := r.l[pid]
	o.what, o.status = "gone", status
	if r.is(o.parent, "live") {
		o.what = "remains"
	}
	for _, c := range r.l {
		if c.parent != pid {
			continue
		}
		if c.what == "remains" {
			c.what = "gone"
		}
		c.parent = 0
	}
	r.over = append(r.over, api.End{Pid: pid, Status: status})
	return true
}

func (r *row) send(pid, s int) bool {
	if !r.is(pid, "live") || s < 1 || s > 31 {
		return false
	}
	switch o := r.l[pid]; o.does[s] {
	case "ignored":
	case "caught":
		o.waiting[s] = true
	default:
		if !slices.Contains(mild, s) {
			r.exit(pid, 128+s)
		}
	}
	return true
}

func (r *row) reap(parent, pid int) (int, bool) {
	if !r.is(pid, "remains") || r.l[pid].parent != parent {
		return 0, false
	}
	r.l[pid].what = "gone"
	return r.l[pid].status, true
}

func (r *row) put(pid, s, how int) bool {
	if !r.is(pid, "live") || s < 1 || s > 31 || slices.Contains(fixed, s) || how < 0 || how > 2 {
		return false
	}
	o := r.l[pid]
	if how != 2 {
		delete(o.waiting, s)
	}
	o.does[s] = []string{"", "ignored", "caught"}[how]
	return true
}

func (r *row) take(pid, s int) bool {
	if !r.is(pid, "live") || !r.l[pid].waiting[s] {
		return false
	}
	delete(r.l[pid].waiting, s)
	return true
}

// hold holds all that a table tells against the row.
func (r *row) hold(t *testing.T, k *kern.Table) {
	t.Helper()
	var live []int
	for pid := -1; pid < len(r.l)+2; pid++ {
		if k.Live(pid) != r.is(pid, "live") {
			t.Errorf("Live(%d) is %v", pid, k.Live(pid))
		}
		if r.is(pid, "live") {
			live = append(live, pid)
		}
		r.holdSignals(t, k, pid)
		r.holdChildren(t, k, pid)
	}
	if got := k.Procs(); !slices.Equal(got, live) {
		t.Errorf("Procs() is %v, not %v", got, live)
	}
	size(t, k, r.count())
	ends(t, k, r.over...)
}

func (r *row) holdSignals(t *testing.T, k *kern.Table, pid int) {
	t.Helper()
	var waiting []int
	for s := -1; s <= 33; s++ {
		want := 0
		if r.is(pid, "live") {
			want = map[string]int{"": 0, "ignored": 1, "caught": 2}[r.l[pid].does[s]]
			if r.l[pid].waiting[s] {
				waiting = append(waiting, s)
			}
		}
		if got := k.How(pid, s); got != want {
			t.Errorf("How(%d, %d) is %d, not %d", pid, s, got, want)
		}
	}
	pending(t, k, pid, waiting...)
}

func (r *row) holdChildren(t *testing.T, k *kern.Table, parent int) {
	t.Helper()
	var kids []int
	for pid := -1; pid < len(r.l)+2; pid++ {
		is := r.is(parent, "live") && (r.is(pid, "live") || r.is(pid, "remains")) && r.l[pid].parent == parent
		if is {
			kids = append(kids, pid)
		}
		if got := k.Child(parent, pid); got != is {
			t.Errorf("Child(%d, %d) is %v", parent, pid, got)
		}
	}
	if got := k.Children(parent); !slices.Equal(got, kids) {
		t.Errorf("Children(%d) is %v, not %v", parent, got, kids)
	}
}

// do does one thing, by chance, to both, and holds what is answered. Who forks more than others end has a full table.
func (r *row) do(t *testing.T, k *kern.Table, c *rand.Rand, forks int) {
	t.Helper()
	pid, other, s, how := c.IntN(len(r.l)+2)-1, c.IntN(len(r.l)+2)-1, c.IntN(35)-1, c.IntN(5)-1
	if c.IntN(2) == 0 {
		s = 1 + c.IntN(3)
	}
	var got, want [2]int
	switch n := c.IntN(10 + forks); {
	case n == 0:
		status := c.IntN(1500) - 600
		got[0], want[0] = truth(k.Exit(pid, status)), truth(r.exit(pid, status))
	case n <= 2:
		got[0], want[0] = truth(k.Send(pid, s)), truth(r.send(pid, s))
	case n <= 4:
		if r.is(other, "remains") && c.IntN(4) > 0 {
			pid = r.l[other].parent
		}
		status, ok := k.Reap(pid, other)
		got = [2]int{status, truth(ok)}
		status, ok = r.reap(pid, other)
		want = [2]int{status, truth(ok)}
	case n <= 7:
		got[0], want[0] = truth(k.Put(pid, s, how)), truth(r.put(pid, s, how))
	case n <= 8:
		got[0], want[0] = truth(k.Take(pid, s)), truth(r.take(pid, s))
	default:
		child, err := k.Fork(pid)
		got = [2]int{child, int(err)}
		child, err = r.fork(pid)
		want = [2]int{child, int(err)}
	}
	if got != want {
		t.Errorf("pid %d, other %d, signal %d, how %d: %d, not %d", pid, other, s, how, got, want)
	}
}

func truth(ok bool) int {
	if ok {
		return 1
	}
	return 0
}

// P12.1 to P12.5: tables to which this and that is done, against the row.
func TestThrown(t *testing.T) {
	c := rand.New(rand.NewPCG(12, 1))
	full := 0
	for i := range 200 {
		x := api.Set(c.Uint32() & c.Uint32())
		var ignored []int
		for s := range 32 {
			if x>>s&1 == 1 {
				ignored = append(ignored, s)
			}
		}
		k, r := kern.New(x), newRow(ignored)
		r.hold(t, k)
		for j := range 200 {
			r.do(t, k, c, i%20)
			if j%10 == 0 || t.Failed() {
				r.hold(t, k)
			}
			if t.Failed() {
				return
			}
		}
		r.hold(t, k)
		if r.count() == 64 {
			full++
		}
	}
	if full == 0 {
		t.Error("no table was ever full")
	}
}

// P2: of the same things the same comes, whatever order a map is gone through.
func TestTwice(t *testing.T) {
	told := func() string {
		k, r, c := kern.New(2), newRow([]int{1}), rand.New(rand.NewPCG(12, 2))
		for range 300 {
			r.do(t, k, c, 8)
		}
		return tells(k)
	}
	first := told()
	for range 20 {
		if told() != first {
			t.Fatal("another answer")
		}
	}
}
