package kern

import (
	"deadfall/api"
	"deadfall/sig"
)

// killed is the status of one that a signal ends, together with the signal.
const killed = 128

// loose are the signals of a set that can be ignored, or caught.
func loose(x api.Set) api.Set {
	for _, s := range sig.List(x) {
		if sig.Fixed(s) {
			x = sig.Without(x, s)
		}
	}
	return x
}

// Send: a signal comes.
func (t *Table) Send(pid, s int) bool {
	p := t.alive(pid)
	if p == nil || !sig.Is(s) {
		return false
	}
	switch p.how(s) {
	case Caught:
		p.pending = sig.With(p.pending, s)
	case Default:
		if !sig.Mild(s) {
			t.Exit(pid, killed+s)
		}
	}
	return true
}

// Put: what is done with a signal from now on.
func (t *Table) Put(pid, s, how int) bool {
	p := t.alive(pid)
	if p == nil || !sig.Is(s) || sig.Fixed(s) {
		return false
	}
	ignored, caught := sig.Without(p.ignored, s), sig.Without(p.caught, s)
	switch how {
	case Default:
	case Ignored:
		ignored = sig.With(ignored, s)
	case Caught:
		caught = sig.With(caught, s)
	default:
		return false
	}
	p.ignored, p.caught = ignored, caught
	p.pending &= caught // nothing else is ever pending
	return true
}

// How: what is done with a signal.
func (t *Table) How(pid, s int) int {
	p := t.alive(pid)
	if p == nil {
		return Default
	}
	return p.how(s)
}

// how is what a live process does with a signal. One that is Fixed is in neither set.
func (p *process) how(s int) int {
	switch {
	case sig.Has(p.ignored, s):
		return Ignored
	case sig.Has(p.caught, s):
		return Caught
	}
	return Default
}

// Pending: which signals are.
func (t *Table) Pending(pid int) api.Set {
	p := t.alive(pid)
	if p == nil {
		return 0
	}
	return p.pending
}

// Take: one isn't any more.
func (t *Table) Take(pid, s int) bool {
	p := t.alive(pid)
	if p == nil || !sig.Has(p.pending, s) {
		return false
	}
	p.pending = sig.Without(p.pending, s)
	return true
}
