package kern_test

import (
	"fmt"
	"math"
	"slices"
	"strings"
	"testing"

	"deadfall/api"
	"deadfall/kern"
)

// every is all signals, and none is no signal: among them such as a shift, or a conversion to fewer bits, takes for one.
var (
	every = []int{1, 2, 3, 4, 5, 6, 7, 8, 9, 10, 11, 12, 13, 14, 15, 16, 17, 18, 19, 20, 21, 22, 23, 24, 25, 26, 27, 28, 29, 30, 31}
	none  = []int{0, -1, -2, -9, -31, 32, 33, 34, 41, 63, 64, 66, 255, 256, 258, 1<<32 + 2, math.MaxInt, math.MinInt, math.MinInt + 2}
	mild  = []int{17, 18, 23, 28}
	fixed = []int{9, 19}
)

// hows are the three, by their numbers in the chapter.
var hows = []int{0, 1, 2}

// nobody are pids that no process of these tests has.
var nobody = []int{0, -1, -2, 100000, 1<<32 + 1, 1<<32 + 2, math.MaxInt, math.MinInt, math.MinInt + 1}

// set is a set by the values of its bits.
func set(l ...int) api.Set {
	var x api.Set
	for _, s := range l {
		x += api.Set(math.Pow(2, float64(s)))
	}
	return x
}

// tells is all that a table tells, of pids about those there are.
func tells(k *kern.Table) string {
	var b strings.Builder
	fmt.Fprintln(&b, k.Len(), k.Procs(), k.Ends())
	for pid := -1; pid <= 80; pid++ {
		if !k.Live(pid) && len(k.Children(pid)) == 0 && k.Pending(pid) == 0 {
			fmt.Fprintln(&b, pid, k.Child(1, pid))
			continue
		}
		fmt.Fprintln(&b, pid, k.Live(pid), k.Children(pid), k.Pending(pid))
		for s := -1; s <= 32; s++ {
			fmt.Fprint(&b, k.How(pid, s))
		}
	}
	return b.String()
}

// kept does what should change nothing.
func kept(t *testing.T, k *kern.Table, does string, call func()) {
	t.Helper()
	was := tells(k)
	call()
	if got := tells(k); got != was {
		t.Errorf("%s changes what is told, from\n%s\nto\n%s", does, was, got)
	}
}

// fork has a process forked, whose pid has to be this one.
func fork(t *testing.T, k *kern.Table, parent, want int) {
	t.Helper()
	if pid, err := k.Fork(parent); pid != want || err != api.OK {
		t.Fatalf("Fork(%d) is %d, %d, not %d", parent, pid, err, want)
	}
}

func exit(t *testing.T, k *kern.Table, pid, status int) {
	t.Helper()
	if !k.Exit(pid, status) || k.Live(pid) {
		t.Errorf("Exit(%d, %d)", pid, status)
	}
}

func put(t *testing.T, k *kern.Table, pid, s, how int) {
	t.Helper()
	if !k.Put(pid, s, how) || k.How(pid, s) != how {
		t.Errorf("Put(%d, %d, %d): How is %d", pid, s, how, k.How(pid, s))
	}
}

func send(t *testing.T, k *kern.Table, pid int, l ...int) {
	t.Helper()
	for _, s := range l {
		if !k.Send(pid, s) {
			t.Errorf("Send(%d, %d) is false", pid, s)
		}
	}
}

func reap(t *testing.T, k *kern.Table, parent, pid, want int) {
	t.Helper()
	if status, ok := k.Reap(parent, pid); status != want || !ok {
		t.Errorf("Reap(%d, %d) is %d, %v, not %d", parent, pid, status, ok, want)
	}
}

// left holds that there is nothing to reap.
func left(t *testing.T, k *kern.Table, parent, pid int) {
	t.Helper()
	kept(t, k, "a Reap of nothing", func() {
		if status, ok := k.Reap(parent, pid); status != 0 || ok {
			t.Errorf("Reap(%d, %d) is %d, %v", parent, pid, status, ok)
		}
	})
}

func pending(t *testing.T, k *kern.Table, pid int, l ...int) {
	t.Helper()
	if got := k.Pending(pid); got != set(l...) {
		t.Errorf("Pending(%d) is %b, not %v", pid, got, l)
	}
}

func procs(t *testing.T, k *kern.Table, want ...int) {
	t.Helper()
	if got := k.Procs(); !slices.Equal(got, want) {
		t.Errorf("Procs() is %v, not %v", got, want)
	}
	for pid := -1; pid <= 200; pid++ {
		if k.Live(pid) != slices.Contains(want, pid) {
			t.Errorf("Live(%d) is %v", pid, k.Live(pid))
		}
	}
}

// children holds Children, and Child likewise.
func children(t *testing.T, k *kern.Table, parent int, want ...int) {
	t.Helper()
	if got := k.Children(parent); !slices.Equal(got, want) {
		t.Errorf("Children(%d) is %v, not %v", parent, got, want)
	}
	for pid := -1; pid <= 200; pid++ {
		if k.Child(parent, pid) != slices.Contains(want, pid) {
			t.Errorf("Child(%d, %d) is %v", parent, pid, k.Child(parent, pid))
		}
	}
}

func size(t *testing.T, k *kern.Table, want int) {
	t.Helper()
	if got := k.Len(); got != want {
		t.Errorf("Len() is %d, not %d", got, want)
	}
}

func ends(t *testing.T, k *kern.Table, want ...api.End) {
	t.Helper()
	if got := k.Ends(); !slices.Equal(got, want) {
		t.Errorf("Ends() is %v, not %v", got, want)
	}
}

// Types: the numbers of what is done with a signal.
func TestHows(t *testing.T) {
	if kern.Default != 0 || kern.Ignored != 1 || kern.Caught != 2 {
		t.Error(kern.Default, kern.Ignored, kern.Caught)
	}
}

// P12.1: one process, live, the pid 1, of the parent 0; nothing is pending.
func TestNew(t *testing.T) {
	for _, x := range []api.Set{0, 1, 2, set(2, 9, 19), math.MaxUint32} {
		k := kern.New(x)
		procs(t, k, 1)
		children(t, k, 0)
		children(t, k, 1)
		size(t, k, 1)
		ends(t, k)
		pending(t, k, 1)
		left(t, k, 0, 1)
		left(t, k, 1, 1)
		for _, pid := range nobody {
			if k.Live(pid) || k.Child(0, pid) || k.Child(pid, 1) || len(k.Children(pid)) > 0 {
				t.Error(pid)
			}
		}
	}
}

// P12.1: the signals of the set that aren't Fixed are Ignored, all others Default; bit 0 is of no matter.
func TestNewIgnored(t *testing.T) {
	sets := []api.Set{0, 1, set(1), set(31), set(0, 31), set(2, 9, 19), set(fixed...), set(mild...), 0x55555555, 0xAAAAAAAA, math.MaxUint32 - 1, math.MaxUint32}
	for _, s := range every {
		sets = append(sets, set(s), math.MaxUint32-set(s))
	}
	for _, x := range sets {
		k := kern.New(x)
		for _, s := range every {
			want := kern.Default
			if uint64(x)/uint64(math.Pow(2, float64(s)))%2 == 1 && !slices.Contains(fixed, s) {
				want = kern.Ignored
			}
			if got := k.How(1, s); got != want {
				t.Errorf("New(%b): How of %d is %d, not %d", x, s, got, want)
			}
		}
		for _, s := range none {
			if got := k.How(1, s); got != kern.Default {
				t.Errorf("New(%b): How of %d is %d", x, s, got)
			}
		}
	}
}

// P12.1: a Fixed one that the set has ends the process all the same.
func TestNewFixed(t *testing.T) {
	for _, s := range fixed {
		k := kern.New(math.MaxUint32)
		send(t, k, 1, s)
		procs(t, k)
		ends(t, k, api.End{Pid: 1, Status: 128 + s})
	}
}

// P12.1: Procs are live ones alone, Children live ones and remains of a live one, all of them rising, and Len counts both.
func TestWhoIs(t *testing.T) {
	k := kern.New(0)
	for pid := 2; pid <= 30; pid++ {
		fork(t, k, 1+(pid-2)%3, pid)
	}
	procs(t, k, 1, 2, 3, 4, 5, 6, 7, 8, 9, 10, 11, 12, 13, 14, 15, 16, 17, 18, 19, 20, 21, 22, 23, 24, 25, 26, 27, 28, 29, 30)
	children(t, k, 1, 2, 5, 8, 11, 14, 17, 20, 23, 26, 29)
	children(t, k, 2, 3, 6, 9, 12, 15, 18, 21, 24, 27, 30)
	children(t, k, 3, 4, 7, 10, 13, 16, 19, 22, 25, 28)
	children(t, k, 4)
	for _, pid := range []int{29, 5, 17, 30, 3} {
		exit(t, k, pid, 0)
	}
	procs(t, k, 1, 2, 4, 6, 7, 8, 9, 10, 11, 12, 13, 14, 15, 16, 18, 19, 20, 21, 22, 23, 24, 25, 26, 27, 28)
	children(t, k, 1, 2, 5, 8, 11, 14, 17, 20, 23, 26, 29)
	children(t, k, 2, 3, 6, 9, 12, 15, 18, 21, 24, 27, 30)
	children(t, k, 3)
	children(t, k, 0)
	size(t, k, 30)
	reap(t, k, 1, 17, 0)
	children(t, k, 1, 2, 5, 8, 11, 14, 20, 23, 26, 29)
	size(t, k, 29)
}

// P12.2: another live process, of the parent pid; its pid is one more than the greatest that there ever was, whoever ended.
func TestForkPids(t *testing.T) {
	k := kern.New(0)
	fork(t, k, 1, 2)
	fork(t, k, 2, 3)
	children(t, k, 1, 2)
	children(t, k, 2, 3)
	exit(t, k, 3, 0)
	reap(t, k, 2, 3, 0)
	fork(t, k, 2, 4)
	exit(t, k, 4, 0)
	exit(t, k, 2, 0)
	reap(t, k, 1, 2, 0)
	procs(t, k, 1)
	size(t, k, 1)
	fork(t, k, 1, 5)
	for pid := 6; pid < 5000; pid++ {
		fork(t, k, pid-1, pid)
		exit(t, k, pid-1, 0)
	}
	fork(t, k, 1, 5000)
}

// P12.2: ErrRange, if pid isn't live, and first, also where there are MaxProcs.
func TestForkErrRange(t *testing.T) {
	k := kern.New(0)
	fork(t, k, 1, 2)
	fork(t, k, 1, 3)
	fork(t, k, 3, 4)
	exit(t, k, 2, 0)
	exit(t, k, 3, 0)
	reap(t, k, 1, 3, 0)
	for range 2 {
		for _, pid := range append([]int{2, 3, 70}, nobody...) {
			kept(t, k, "a Fork of none", func() {
				if got, err := k.Fork(pid); got != 0 || err != api.ErrRange {
					t.Errorf("Fork(%d) is %d, %d", pid, got, err)
				}
			})
		}
		for k.Len() < 64 {
			k.Fork(1)
		}
	}
	reap(t, k, 1, 2, 0)
	fork(t, k, 1, 66) // those that failed have taken no pid
}

// P12.2: ErrFull, if there are 64 processes, live ones and remains, until one of them is none any more.
func TestForkErrFull(t *testing.T) {
	k := kern.New(0)
	full := func() {
		t.Helper()
		size(t, k, 64)
		kept(t, k, "a Fork of one too many", func() {
			for _, pid := range []int{1, 3} {
				if got, err := k.Fork(pid); got != 0 || err != api.ErrFull {
					t.Errorf("Fork(%d) is %d, %d", pid, got, err)
				}
			}
		})
	}
	for pid := 2; pid <= 64; pid++ {
		fork(t, k, 1, pid)
	}
	full()
	exit(t, k, 2, 7) // a remains is a process, too
	full()
	reap(t, k, 1, 2, 7)
	fork(t, k, 1, 65)
	full()
	send(t, k, 4, 9)
	full()
	reap(t, k, 1, 4, 137)
	fork(t, k, 3, 66)
	full()
	exit(t, k, 3, 0)
	exit(t, k, 66, 0) // whose parent isn't live: it is none any more
	size(t, k, 63)
	fork(t, k, 1, 67)
	size(t, k, 64)
}

// P12.2: of 64 processes all may fork but the 64th.
func TestForkOfAny(t *testing.T) {
	k := kern.New(0)
	for pid := 2; pid <= 64; pid++ {
		fork(t, k, pid-1, pid)
	}
	if pid, err := k.Fork(64); pid != 0 || err != api.ErrFull {
		t.Error(pid, err)
	}
}

// P12.2: what was Ignored by the parent, from the beginning or since, is; all else is Default; nothing is pending.
func TestForkHow(t *testing.T) {
	k := kern.New(set(2, 3))
	put(t, k, 1, 3, kern.Default)
	put(t, k, 1, 15, kern.Ignored)
	put(t, k, 1, 1, kern.Caught)
	put(t, k, 1, 10, kern.Caught)
	put(t, k, 1, 12, kern.Ignored)
	put(t, k, 1, 12, kern.Caught)
	send(t, k, 1, 1, 10)
	fork(t, k, 1, 2)
	fork(t, k, 2, 3)
	for _, pid := range []int{2, 3} {
		for _, s := range every {
			want := kern.Default
			if s == 2 || s == 15 {
				want = kern.Ignored
			}
			if got := k.How(pid, s); got != want {
				t.Errorf("How(%d, %d) is %d, not %d", pid, s, got, want)
			}
		}
		pending(t, k, pid)
	}
	pending(t, k, 1, 1, 10)
	if k.How(1, 1) != kern.Caught || k.How(1, 12) != kern.Caught {
		t.Error("the parent does something else since")
	}
}

// P12.2, P12.5: what is put of, sent to, and taken from one process is of no matter to another one.
func TestApart(t *testing.T) {
	k := kern.New(set(2))
	fork(t, k, 1, 2)
	put(t, k, 1, 2, kern.Default)
	put(t, k, 1, 3, kern.Ignored)
	put(t, k, 2, 15, kern.Caught)
	if k.How(2, 2) != kern.Ignored || k.How(2, 3) != kern.Default || k.How(1, 15) != kern.Default {
		t.Error("put")
	}
	put(t, k, 1, 15, kern.Caught)
	send(t, k, 1, 15)
	pending(t, k, 2)
	send(t, k, 2, 15)
	put(t, k, 1, 15, kern.Ignored)
	pending(t, k, 1)
	pending(t, k, 2, 15)
	if k.Take(1, 15) || !k.Take(2, 15) {
		t.Error("take")
	}

	other := kern.New(0)
	fork(t, other, 1, 2)
	kept(t, k, "what is done to another table", func() {
		put(t, other, 2, 15, kern.Caught)
		send(t, other, 2, 15)
		exit(t, other, 1, 3)
	})
}

// P12.1, P12.4: lists are new memory, spare room too.
func TestMemory(t *testing.T) {
	k := kern.New(0)
	for pid := 2; pid <= 8; pid++ {
		fork(t, k, 1, pid)
	}
	for pid := 6; pid <= 8; pid++ {
		exit(t, k, pid, pid)
	}
	kept(t, k, "what is written into an answer", func() {
		for _, l := range [][]int{k.Procs(), k.Children(1)} {
			l = l[:cap(l)]
			for i := range l {
				l[i] = 77
			}
		}
		for range 2 {
			l := k.Ends()
			l = l[:cap(l)]
			for i := range l {
				l[i] = api.End{Pid: 77, Status: 77}
			}
		}
	})
	was, kids, live := k.Ends(), k.Children(1), k.Procs()
	exit(t, k, 5, 5)
	reap(t, k, 1, 6, 6)
	want := []api.End{{Pid: 6, Status: 6}, {Pid: 7, Status: 7}, {Pid: 8, Status: 8}}
	if !slices.Equal(was, want) || !slices.Equal(kids, []int{2, 3, 4, 5, 6, 7, 8}) || !slices.Equal(live, []int{1, 2, 3, 4, 5}) {
		t.Error("what comes later changes an answer", was, kids, live)
	}
	ends(t, k, append(want, api.End{Pid: 5, Status: 5})...)
}

// P12.4: false, and nothing, if pid isn't live.
func TestExitFalse(t *testing.T) {
	k := kern.New(0)
	fork(t, k, 1, 2)
	fork(t, k, 1, 3)
	exit(t, k, 2, 5)
	exit(t, k, 3, 6)
	reap(t, k, 1, 3, 6)
	for _, pid := range append([]int{2, 3, 4}, nobody...) {
		kept(t, k, "an Exit of none", func() {
			if k.Exit(pid, 9) {
				t.Errorf("Exit(%d) is true", pid)
			}
		})
	}
	reap(t, k, 1, 2, 5)
	ends(t, k, api.End{Pid: 2, Status: 5}, api.End{Pid: 3, Status: 6})
}

// P12.4: the status's remainder by 256, from 0 to 255, of the remains and of the Ends.
func TestExitStatus(t *testing.T) {
	statuses := map[int]int{
		0: 0, 1: 1, 127: 127, 128: 128, 254: 254, 255: 255, 256: 0, 257: 1, 300: 44, 511: 255, 512: 0, 65535: 255, 65536: 0,
		-1: 255, -2: 254, -255: 1, -256: 0, -257: 255, -300: 212, -512: 0, 1<<32 + 3: 3, -1<<32 - 3: 253,
		math.MaxInt: 255, math.MaxInt - 255: 0, math.MinInt: 0, math.MinInt + 1: 1, math.MinInt + 255: 255,
	}
	for n := 0; n < 256; n++ {
		statuses[n], statuses[n+256], statuses[n-512] = n, n, n
	}
	for status, want := range statuses {
		k := kern.New(0)
		fork(t, k, 1, 2)
		exit(t, k, 2, status)
		reap(t, k, 1, 2, want)
		exit(t, k, 1, status)
		ends(t, k, api.End{Pid: 2, Status: want}, api.End{Pid: 1, Status: want})
	}
}

// P12.4: it is a remains, if its parent is live, and it is no process any more, if not; its children that are remains go, the others have the parent 0.
func TestExitOfAParent(t *testing.T) {
	k := kern.New(0)
	for pid := 2; pid <= 5; pid++ {
		fork(t, k, pid-1, pid) // each is the child of the one ahead
	}
	fork(t, k, 3, 6)
	fork(t, k, 3, 7)
	exit(t, k, 6, 60)
	children(t, k, 3, 4, 6, 7)

	exit(t, k, 3, 30)
	size(t, k, 6) // 6 is none any more
	procs(t, k, 1, 2, 4, 5, 7)
	children(t, k, 2, 3)
	children(t, k, 3)
	children(t, k, 0)
	children(t, k, 4, 5)
	left(t, k, 3, 6)
	left(t, k, 2, 6)
	left(t, k, 0, 6)

	exit(t, k, 4, 40)
	size(t, k, 5) // 4 has gone whole, as its parent isn't live
	children(t, k, 2, 3)
	children(t, k, 4)
	left(t, k, 0, 4)
	left(t, k, 2, 4)
	left(t, k, 3, 4)

	exit(t, k, 2, 20)
	size(t, k, 4) // 1, 5 and 7, and 2, which remains; 3 has gone
	left(t, k, 2, 3)
	left(t, k, 1, 3)
	procs(t, k, 1, 5, 7)
	children(t, k, 1, 2)
	reap(t, k, 1, 2, 20)

	exit(t, k, 1, 10)
	procs(t, k, 5, 7)
	size(t, k, 2)
	fork(t, k, 5, 8)
	exit(t, k, 5, 50)
	exit(t, k, 8, 80)
	exit(t, k, 7, 70)
	size(t, k, 0)
	procs(t, k)
	ends(t, k, api.End{Pid: 6, Status: 60}, api.End{Pid: 3, Status: 30}, api.End{Pid: 4, Status: 40}, api.End{Pid: 2, Status: 20}, api.End{Pid: 1, Status: 10}, api.End{Pid: 5, Status: 50}, api.End{Pid: 8, Status: 80}, api.End{Pid: 7, Status: 70})
	if pid, err := k.Fork(1); pid != 0 || err != api.ErrRange {
		t.Error(pid, err)
	}
}

// P12.4: a process that ends leaves those of others alone: live ones, and remains.
func TestExitOfOthers(t *testing.T) {
	k := kern.New(0)
	fork(t, k, 1, 2)
	fork(t, k, 1, 3)
	fork(t, k, 3, 4)
	fork(t, k, 3, 5)
	fork(t, k, 1, 6)
	exit(t, k, 4, 40)
	exit(t, k, 6, 61)
	exit(t, k, 2, 20)
	size(t, k, 6)
	children(t, k, 1, 2, 3, 6)
	children(t, k, 3, 4, 5)
	reap(t, k, 3, 4, 40)
	reap(t, k, 1, 2, 20)
	reap(t, k, 1, 6, 61)
}

// P12.4: a remains, and what is none any more, is no live one: nothing is pending, everything is Default, and nothing can be done.
func TestAfterExit(t *testing.T) {
	k := kern.New(set(2))
	fork(t, k, 1, 2)
	fork(t, k, 1, 3)
	for _, pid := range []int{2, 3} {
		put(t, k, pid, 15, kern.Caught)
		send(t, k, pid, 15)
	}
	exit(t, k, 2, 0)
	send(t, k, 3, 1)
	reap(t, k, 1, 3, 129)
	for _, pid := range append([]int{2, 3, 4}, nobody...) {
		kept(t, k, "what is done to one that isn't live", func() {
			for s := -1; s <= 32; s++ {
				if k.How(pid, s) != kern.Default || k.Take(pid, s) || k.Send(pid, s) {
					t.Errorf("How, Take, Send of %d, %d", pid, s)
				}
				for how := -1; how <= 3; how++ {
					if k.Put(pid, s, how) {
						t.Errorf("Put(%d, %d, %d)", pid, s, how)
					}
				}
			}
			pending(t, k, pid)
			children(t, k, pid)
		})
	}
	reap(t, k, 1, 2, 0)
}

// P12.4: Reap of what is no remains of that parent is 0 and false, and nothing.
func TestReapFalse(t *testing.T) {
	k := kern.New(0)
	fork(t, k, 1, 2)
	fork(t, k, 1, 3)
	fork(t, k, 2, 4)
	exit(t, k, 3, 33)
	exit(t, k, 4, 44)
	pids := append([]int{1, 2, 3, 4, 5}, nobody...)
	for _, parent := range pids {
		for _, pid := range pids {
			if parent == 1 && pid == 3 || parent == 2 && pid == 4 {
				continue
			}
			left(t, k, parent, pid)
		}
	}
	reap(t, k, 1, 3, 33)
	reap(t, k, 2, 4, 44)
	left(t, k, 1, 3)
	left(t, k, 2, 4)
	size(t, k, 2)
	ends(t, k, api.End{Pid: 3, Status: 33}, api.End{Pid: 4, Status: 44})
}

// The chapter's example.
func TestExample(t *testing.T) {
	k := kern.New(0)
	fork(t, k, 1, 2)
	send(t, k, 2, 15)
	size(t, k, 2)
	reap(t, k, 1, 2, 143)
}
