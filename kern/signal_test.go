package kern_test

import (
	"slices"
	"testing"

	"deadfall/api"
	"deadfall/kern"
)

// P12.3: each signal, where each thing is done with it.
func TestSend(t *testing.T) {
	for _, s := range every {
		for _, how := range hows {
			k := kern.New(0)
			fork(t, k, 1, 2)
			if slices.Contains(fixed, s) {
				how = kern.Default
			} else {
				put(t, k, 2, s, how)
			}
			send(t, k, 2, s)
			switch {
			case how == kern.Caught:
				pending(t, k, 2, s)
				procs(t, k, 1, 2)
			case how == kern.Ignored || slices.Contains(mild, s):
				pending(t, k, 2)
				procs(t, k, 1, 2)
				ends(t, k)
			default:
				procs(t, k, 1)
				ends(t, k, api.End{Pid: 2, Status: 128 + s})
				size(t, k, 2)
				reap(t, k, 1, 2, 128+s)
			}
			if k.Live(2) && k.How(2, s) != how {
				t.Errorf("%d: How is %d, not %d", s, k.How(2, s), how)
			}
			pending(t, k, 1)
		}
	}
}

// P12.3: what is ignored from the beginning on, or by the parent, is of no matter; all of these signals at once.
func TestSendIgnored(t *testing.T) {
	k := kern.New(^api.Set(0))
	fork(t, k, 1, 2)
	for _, s := range every {
		if slices.Contains(fixed, s) {
			continue
		}
		for _, pid := range []int{1, 2} {
			kept(t, k, "an ignored signal", func() { send(t, k, pid, s) })
		}
	}
	send(t, k, 2, 19)
	reap(t, k, 1, 2, 147)
}

// P12.3: a signal that is Caught is pending, as it may be already; others are so beside it.
func TestSendCaught(t *testing.T) {
	k := kern.New(0)
	var so []int
	for _, s := range every {
		if slices.Contains(fixed, s) {
			continue
		}
		put(t, k, 1, s, kern.Caught)
		send(t, k, 1, s)
		so = append(so, s)
		pending(t, k, 1, so...)
		kept(t, k, "a signal that is pending", func() { send(t, k, 1, s) })
	}
}

// P12.3: false, and nothing, if s is no signal, or pid isn't live.
func TestSendFalse(t *testing.T) {
	k := kern.New(set(2))
	put(t, k, 1, 1, kern.Caught)
	fork(t, k, 1, 2)
	fork(t, k, 1, 3)
	exit(t, k, 2, 0)
	exit(t, k, 3, 0)
	reap(t, k, 1, 3, 0)
	wrong := func(pid, s int) {
		kept(t, k, "a Send of none", func() {
			if k.Send(pid, s) {
				t.Errorf("Send(%d, %d) is true", pid, s)
			}
		})
	}
	for _, s := range none {
		wrong(1, s)
		wrong(2, s)
		wrong(77, s)
	}
	for _, pid := range append([]int{2, 3, 4}, nobody...) {
		for _, s := range []int{1, 2, 9, 15, 17} {
			wrong(pid, s)
		}
	}
}

// P12.3, P12.4: a signal ends a process as Exit does: remains among its children go, others stay, and it goes whole, if its parent isn't live.
func TestSendEnds(t *testing.T) {
	k := kern.New(0)
	fork(t, k, 1, 2)
	fork(t, k, 2, 3)
	fork(t, k, 2, 4)
	send(t, k, 3, 15)
	children(t, k, 2, 3, 4)
	send(t, k, 2, 9)
	procs(t, k, 1, 4)
	children(t, k, 1, 2)
	size(t, k, 3)
	send(t, k, 4, 1)
	size(t, k, 2)
	send(t, k, 1, 31)
	size(t, k, 0)
	ends(t, k, api.End{Pid: 3, Status: 143}, api.End{Pid: 2, Status: 137}, api.End{Pid: 4, Status: 129}, api.End{Pid: 1, Status: 159})
}

// P12.3: a process may be ended, whatever else is pending for it.
func TestSendAmongPending(t *testing.T) {
	k := kern.New(0)
	fork(t, k, 1, 2)
	put(t, k, 2, 2, kern.Caught)
	put(t, k, 2, 3, kern.Caught)
	send(t, k, 2, 2, 3, 15)
	pending(t, k, 2)
	reap(t, k, 1, 2, 143)
}

// P12.5: from each thing that is done to each other one, of every signal that isn't Fixed; the others stay as they are.
func TestPut(t *testing.T) {
	for _, s := range every {
		if slices.Contains(fixed, s) {
			continue
		}
		for _, from := range hows {
			for _, to := range hows {
				k := kern.New(set(s))
				put(t, k, 1, s, from)
				put(t, k, 1, s, to)
				for _, other := range every {
					if other != s && k.How(1, other) != kern.Default {
						t.Errorf("Put of %d: How of %d is %d", s, other, k.How(1, other))
					}
				}
				pending(t, k, 1)
			}
		}
	}
}

// P12.5: if it isn't Caught now, s isn't pending any more, nor when it is Caught again; other signals are.
func TestPutOfPending(t *testing.T) {
	for _, how := range hows {
		k := kern.New(0)
		for _, s := range []int{1, 2, 3} {
			put(t, k, 1, s, kern.Caught)
			send(t, k, 1, s)
		}
		put(t, k, 1, 2, how)
		if how == kern.Caught {
			pending(t, k, 1, 1, 2, 3)
			continue
		}
		pending(t, k, 1, 1, 3)
		put(t, k, 1, 2, kern.Caught)
		pending(t, k, 1, 1, 3)
		put(t, k, 1, 10, how)
		pending(t, k, 1, 1, 3)
	}
}

// P12.5: false, and nothing, if s is no signal, or Fixed, or how is none of the three.
func TestPutFalse(t *testing.T) {
	k := kern.New(set(2))
	put(t, k, 1, 1, kern.Caught)
	put(t, k, 1, 15, kern.Caught)
	send(t, k, 1, 1)
	wrong := func(s, how int) {
		kept(t, k, "a Put of none", func() {
			if k.Put(1, s, how) {
				t.Errorf("Put(1, %d, %d) is true", s, how)
			}
		})
	}
	for _, how := range hows {
		for _, s := range slices.Concat(none, fixed) {
			wrong(s, how)
		}
	}
	for _, how := range []int{-1, 3, 4, 255, 256, 257, 258, 1 << 32, 1<<32 + 2, -1 << 63, 1<<63 - 1} {
		for _, s := range slices.Concat(none, every) {
			wrong(s, how)
		}
	}
}

// P12.5: a signal that was taken isn't pending any more, but may be again; the others are still.
func TestTake(t *testing.T) {
	k := kern.New(0)
	var all []int
	for _, s := range every {
		if !slices.Contains(fixed, s) {
			put(t, k, 1, s, kern.Caught)
			all = append(all, s)
		}
	}
	send(t, k, 1, all...)
	for i, s := range all {
		if !k.Take(1, s) {
			t.Errorf("Take of %d is false", s)
		}
		pending(t, k, 1, all[i+1:]...)
		if k.How(1, s) != kern.Caught {
			t.Errorf("How of %d, that was taken, is %d", s, k.How(1, s))
		}
		kept(t, k, "a second Take", func() {
			if k.Take(1, s) {
				t.Errorf("%d is taken twice", s)
			}
		})
	}
	send(t, k, 1, 2)
	pending(t, k, 1, 2)
}

// P12.5: Take of what isn't pending is false, and nothing.
func TestTakeFalse(t *testing.T) {
	k := kern.New(set(3))
	put(t, k, 1, 1, kern.Caught)
	put(t, k, 1, 2, kern.Caught)
	send(t, k, 1, 1, 3, 17)
	for _, s := range slices.Concat(none, every) {
		if s == 1 {
			continue
		}
		kept(t, k, "a Take of none", func() {
			if k.Take(1, s) {
				t.Errorf("Take of %d is true", s)
			}
		})
	}
	pending(t, k, 1, 1)
}
