package builtin

import "deadfall/number"

func (c *call) exit() Effect {
	n, ok := c.only(c.ended(), number.Read)
	if !ok {
		return misused()
	}
	return Effect{Kind: Leave, Status: number.Status(n)}
}

// ended is the status with which a process leaves that names none: in an action that of ahead of it.
func (c *call) ended() int {
	if n, ok := c.state.Stack.Saved(); ok {
		return n
	}
	return c.state.Scope.Status()
}

// goBack looks at its operands first, as a misused one takes nothing off the Stack.
func (c *call) goBack() Effect {
	n, ok := c.only(c.state.Scope.Status(), number.Read)
	if !ok {
		return misused()
	}
	back, ok := c.state.Stack.Return()
	if !ok {
		return plain(wrong)
	}
	c.state.Scope.SetArgs(back.Words...)
	return Effect{Kind: Returned, Status: number.Status(n), Free: back.Free}
}

func (c *call) breakOff() Effect {
	return c.loops(c.state.Stack.Break)
}

func (c *call) goOn() Effect {
	return c.loops(c.state.Stack.Continue)
}

// loops does this to so many loops. Where there are none, the Stack refuses any number, which is no fault.
func (c *call) loops(do func(int) bool) Effect {
	n, ok := c.only(1, func(text string) (int, bool) {
		return number.Count(text, c.state.Stack.Loops())
	})
	if !ok {
		return misused()
	}
	do(n)
	return plain(well)
}
