package builtin

import (
	"slices"
	"strings"

	"deadfall/api"
	"deadfall/number"
	"deadfall/sig"
)

// nameless is the signal that kill sends where none is named.
const nameless = "TERM"

func (c *call) trap() Effect {
	c.skipEndMark()
	if len(c.operands) == 0 {
		return Effect{Kind: Plain, Status: well, Text: strings.Join(c.state.Traps.Lines(), "")}
	}
	do := c.action()
	conds, ok := conditions(c.operands)
	if !ok || len(conds) == 0 {
		return plain(failed)
	}
	for _, cond := range conds {
		// All get the same action: if it is refused, it is at the first one, so that nothing was done.
		if do(cond) != api.OK {
			return plain(wrong)
		}
		c.obey(cond)
	}
	return plain(well)
}

// action is what is done to conditions; its text, if there is one, is taken away.
func (c *call) action() func(cond int) api.Errno {
	if _, ok := number.Read(c.first()); ok {
		return c.state.Traps.Reset
	}
	text := c.next()
	if text == "-" {
		return c.state.Traps.Reset
	}
	return func(cond int) api.Errno { return c.state.Traps.Set(cond, text) }
}

// conditions are those that are named, each once, as an action may be long to read; false, if one can't be set.
func conditions(names []string) ([]int, bool) {
	var l []int
	for _, name := range names {
		cond, ok := sig.Cond(name)
		if !ok || sig.Fixed(cond) {
			return nil, false
		}
		if !slices.Contains(l, cond) {
			l = append(l, cond)
		}
	}
	return l, true
}

// obey: the process does with a signal what its Traps say; the end is no signal, which the Table refuses.
func (c *call) obey(cond int) {
	if !sig.Has(c.state.Traps.Entry(), cond) {
		c.table.Put(c.pid, cond, c.state.Traps.How(cond))
	}
}

func (c *call) kill() Effect {
	s, ok := sig.Number(c.signal())
	c.skipEndMark()
	if !ok || len(c.operands) == 0 {
		return plain(wrong)
	}
	status := well
	for _, text := range c.operands {
		// It may have been among those that it killed.
		if !c.table.Live(c.pid) {
			break
		}
		if pid, ok := number.Read(text); !ok || !c.table.Send(pid, s) {
			status = failed
		}
	}
	return plain(status)
}

// signal is the name of the signal; what names it is taken away.
func (c *call) signal() string {
	first := c.first()
	switch {
	case first == "-s":
		c.next()
		return c.next()
	case first == "-", first == endMark, !strings.HasPrefix(first, "-"):
		return nameless
	}
	return c.next()[1:]
}

func (c *call) wait() Effect {
	if len(c.operands) == 0 {
		return Effect{Kind: Waits, All: true, Pids: c.table.Children(c.pid)}
	}
	var pids []int
	for _, text := range c.operands {
		pid, ok := number.Read(text)
		if !ok {
			return plain(wrong)
		}
		pids = append(pids, pid)
	}
	return Effect{Kind: Waits, Pids: pids}
}
