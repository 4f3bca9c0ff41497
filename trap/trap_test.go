package trap_test

import (
	"fmt"
	"math"
	"reflect"
	"slices"
	"strings"
	"testing"

	"deadfall/api"
	"deadfall/parse"
	"deadfall/trap"
)

// names has each signal's name at its number, as the document of layer 1 has them.
var names = strings.Fields("- HUP INT QUIT ILL TRAP ABRT BUS FPE KILL USR1 SEGV USR2 PIPE ALRM TERM STKFLT CHLD CONT STOP TSTP TTIN TTOU URG XCPU XFSZ VTALRM PROF WINCH IO PWR SYS")

// loose are the signals that can be caught; fixed are the others; none are no conditions: among them such as a shift, or a conversion to fewer bits, takes for one.
var (
	loose = []int{1, 2, 3, 4, 5, 6, 7, 8, 10, 11, 12, 13, 14, 15, 16, 17, 18, 20, 21, 22, 23, 24, 25, 26, 27, 28, 29, 30, 31}
	fixed = []int{9, 19}
	none  = []int{-1, -2, -9, -31, -32, 32, 33, 34, 41, 51, 63, 64, 66, 255, 256, 258, 1 << 32, 1<<32 + 2, math.MaxInt, math.MinInt, math.MinInt + 2}
)

// wrong are texts that are no programs: of a bad form, or too deep.
var wrong = []string{"if", "a &&", "a b'", "(", ")", "a; }", "&", "${", "$(a)", "fi", "\"", "a | b", strings.Repeat("(", 201) + "a" + strings.Repeat(")", 201)}

// right are texts that are programs, none of them empty.
var right = []string{"a", " ", "\n", "#", " #c", ":", "echo 'a'; b", "it\\'s", "''", "a\nb\n", "trap - INT", "x=1", "f() { a; }", "a & ", "\"a\\\"b\"", "echo \xff\x00é", strings.Repeat("(", 200) + "a" + strings.Repeat(")", 200)}

// set is a set by the values of its bits.
func set(l ...int) api.Set {
	var x api.Set
	for _, s := range l {
		x += api.Set(math.Pow(2, float64(s)))
	}
	return x
}

// program is the tree of a text that is one.
func program(t *testing.T, text string) api.Node {
	t.Helper()
	n, at, err := parse.Parse(text)
	if err != 0 {
		t.Fatalf("%q is no program: %d at %d", text, err, at)
	}
	return n
}

// tells is all that a table tells.
func tells(x *trap.Table) string {
	var b strings.Builder
	fmt.Fprintf(&b, "%b %q\n", x.Entry(), x.Lines())
	for cond := -2; cond <= 34; cond++ {
		text, n := x.Action(cond)
		fmt.Fprintf(&b, "%d: %d %q %v\n", cond, x.How(cond), text, n)
	}
	return b.String()
}

// kept does what should change nothing.
func kept(t *testing.T, x *trap.Table, does string, call func()) {
	t.Helper()
	was := tells(x)
	call()
	if got := tells(x); got != was {
		t.Errorf("%s changes what is told, from\n%s\nto\n%s", does, was, got)
	}
}

// is: this is told of a condition, with this action's text, if it has one.
func is(t *testing.T, x *trap.Table, cond, how int, text string) {
	t.Helper()
	if got := x.How(cond); got != how {
		t.Errorf("how of %d is %d, not %d", cond, got, how)
	}
	var want api.Node
	if text != "" {
		want = program(t, text)
	}
	if got, n := x.Action(cond); got != text || !reflect.DeepEqual(n, want) {
		t.Errorf("the action of %d is %q, %v, not %q, %v", cond, got, n, text, want)
	}
}

// lines: these are told.
func lines(t *testing.T, x *trap.Table, want ...string) {
	t.Helper()
	if got := x.Lines(); !slices.Equal(got, want) {
		t.Errorf("lines are %q, not %q", got, want)
	}
}

// full is a table in which QUIT and USR1 are ignored on entry, TERM and the end are ignored, and HUP and INT have actions.
func full() *trap.Table {
	x := trap.New(set(3, 10))
	x.Set(15, "")
	x.Set(0, "")
	x.Set(1, "a; b")
	x.Set(2, "c")
	return x
}

// P13.1: of all conditions there is nothing, but that signals are ignored on entry; bit 0 and the signals that are Fixed aren't.
func TestNew(t *testing.T) {
	for s := range 32 {
		x := trap.New(set(s))
		ignored := slices.Contains(loose, s)
		if got := x.Entry(); ignored && got != set(s) || !ignored && got != 0 {
			t.Errorf("New of %d: entry %b", s, got)
		}
		lines(t, x)
		for cond := range 32 {
			if ignored && cond == s {
				is(t, x, cond, 1, "")
			} else {
				is(t, x, cond, 0, "")
			}
		}
	}
	if got := trap.New(0).Entry(); got != 0 {
		t.Errorf("entry of none: %b", got)
	}
	x := trap.New(math.MaxUint32)
	if got := x.Entry(); got != set(loose...) {
		t.Errorf("entry of all: %b", got)
	}
	for _, s := range fixed {
		is(t, x, s, 0, "")
	}
	is(t, x, 0, 0, "")
	lines(t, x)
}

// P13.1: what is set later isn't ignored on entry.
func TestEntryStays(t *testing.T) {
	x := full()
	x.Set(3, "a")
	x.Reset(10)
	x.Reset(15)
	x.Set(12, "")
	if got := x.Entry(); got != set(3, 10) {
		t.Errorf("entry: %b", got)
	}
}

// P13.2, P13.3: each condition gets each action, is ignored, and reset, and nothing else is.
func TestSet(t *testing.T) {
	for _, cond := range append([]int{0}, loose...) {
		x := trap.New(0)
		for _, text := range right {
			if e := x.Set(cond, text); e != api.OK {
				t.Errorf("Set(%d, %q): %d", cond, text, e)
			}
			is(t, x, cond, 2, text)
			for other := range 32 {
				if other != cond && x.How(other) != 0 {
					t.Errorf("Set(%d, %q) sets %d", cond, text, other)
				}
			}
		}
		if e := x.Set(cond, ""); e != api.OK {
			t.Errorf("Set(%d, empty): %d", cond, e)
		}
		is(t, x, cond, 1, "")
		x.Set(cond, "a")
		is(t, x, cond, 2, "a")
		if e := x.Reset(cond); e != api.OK {
			t.Errorf("Reset(%d): %d", cond, e)
		}
		is(t, x, cond, 0, "")
		if e := x.Reset(cond); e != api.OK {
			t.Errorf("Reset(%d) again: %d", cond, e)
		}
		is(t, x, cond, 0, "")
		if got := x.Entry(); got != 0 {
			t.Errorf("entry: %b", got)
		}
	}
}

// P13.2: an ignored one is reset.
func TestResetIgnored(t *testing.T) {
	x := full()
	for _, cond := range []int{0, 15} {
		if e := x.Reset(cond); e != api.OK {
			t.Errorf("Reset(%d): %d", cond, e)
		}
		is(t, x, cond, 0, "")
	}
	is(t, x, 1, 2, "a; b")
	is(t, x, 2, 2, "c")
	lines(t, x, "trap -- 'a; b' HUP\n", "trap -- 'c' INT\n")
}

// P13.2: the range is asked for first, then the form, and nothing is changed.
func TestWrong(t *testing.T) {
	x := full()
	for _, cond := range append(fixed, none...) {
		for _, text := range append(append([]string{""}, right...), wrong...) {
			kept(t, x, fmt.Sprintf("Set(%d, %q)", cond, text), func() {
				if e := x.Set(cond, text); e != api.ErrRange {
					t.Errorf("Set(%d, %q): %d", cond, text, e)
				}
			})
		}
		kept(t, x, fmt.Sprintf("Reset(%d)", cond), func() {
			if e := x.Reset(cond); e != api.ErrRange {
				t.Errorf("Reset(%d): %d", cond, e)
			}
		})
	}
	for _, cond := range append([]int{0}, loose...) {
		for _, text := range wrong {
			kept(t, x, fmt.Sprintf("Set(%d, %q)", cond, text), func() {
				if e := x.Set(cond, text); e != api.ErrForm {
					t.Errorf("Set(%d, %q): %d", cond, text, e)
				}
			})
		}
	}
}

// P13.2: of what is ignored on entry nothing is set, nor reset, and that is well.
func TestIgnoredOnEntry(t *testing.T) {
	x := trap.New(math.MaxUint32)
	for _, s := range loose {
		for _, text := range append([]string{""}, right...) {
			kept(t, x, fmt.Sprintf("Set(%d, %q)", s, text), func() {
				if e := x.Set(s, text); e != api.OK {
					t.Errorf("Set(%d, %q): %d", s, text, e)
				}
			})
		}
		kept(t, x, fmt.Sprintf("Reset(%d)", s), func() {
			if e := x.Reset(s); e != api.OK {
				t.Errorf("Reset(%d): %d", s, e)
			}
		})
	}
	x.Set(0, "a")
	is(t, x, 0, 2, "a")
}

// P13.3: there is nothing of what can't be caught, or is no condition.
func TestNoCondition(t *testing.T) {
	for _, x := range []*trap.Table{trap.New(0), trap.New(math.MaxUint32), full()} {
		for _, cond := range append(fixed, none...) {
			is(t, x, cond, 0, "")
		}
	}
}

// P13.4: a child has what is ignored of signals, and nothing else.
func TestChild(t *testing.T) {
	x := full()
	kept(t, x, "Child", func() { x.Child() })
	for _, c := range []*trap.Table{x.Child(), x.Child().Child()} {
		if got := c.Entry(); got != set(3, 10) {
			t.Errorf("entry of the child: %b", got)
		}
		lines(t, c, "trap -- '' TERM\n")
		for cond := range 32 {
			if cond == 3 || cond == 10 || cond == 15 {
				is(t, c, cond, 1, "")
			} else {
				is(t, c, cond, 0, "")
			}
		}
	}
	for _, s := range loose {
		x := trap.New(0)
		x.Set(s, "")
		c := x.Child()
		is(t, c, s, 1, "")
		c.Set(s, "a") // as it isn't ignored on entry
		is(t, c, s, 2, "a")
		is(t, c.Child(), s, 0, "")
	}
}

// P13.4: what is done to the one isn't done to the other.
func TestChildIsAnother(t *testing.T) {
	x := full()
	c := x.Child()
	kept(t, c, "what is done to the parent", func() {
		x.Set(15, "a")
		x.Set(4, "b")
		x.Reset(1)
		x.Set(5, "")
	})
	kept(t, x, "what is done to the child", func() {
		c.Reset(15)
		c.Set(2, "d")
		c.Set(0, "e")
		c.Set(6, "")
	})
}

// P13.4: a line for each, with its text in marks and its name, but not for what is ignored on entry.
func TestLines(t *testing.T) {
	for cond, name := range names {
		if cond == 0 {
			name = "EXIT"
		}
		x := trap.New(0)
		x.Set(cond, "echo a b")
		if slices.Contains(fixed, cond) {
			lines(t, x)
			continue
		}
		lines(t, x, "trap -- 'echo a b' "+name+"\n")
		x.Set(cond, "")
		lines(t, x, "trap -- '' "+name+"\n")
		x.Set(cond, "it\\'s")
		lines(t, x, "trap -- 'it\\'\\''s' "+name+"\n")
		x.Reset(cond)
		lines(t, x)
	}
}

// P13.4: they come by rising numbers, in whatever order they were set.
func TestLinesRise(t *testing.T) {
	x := trap.New(set(2, 30))
	for cond := 31; cond >= 0; cond-- {
		x.Set(cond, fmt.Sprintf("a%d", cond))
	}
	x.Set(28, "")
	want := []string{"trap -- 'a0' EXIT\n"}
	for _, s := range loose {
		text := fmt.Sprintf("a%d", s)
		if s == 28 {
			text = ""
		}
		if s != 2 && s != 30 {
			want = append(want, "trap -- '"+text+"' "+names[s]+"\n")
		}
	}
	lines(t, x, want...)
}

// P13.4: a line is a command that sets the action again.
func TestLinesAreRead(t *testing.T) {
	for _, text := range right {
		x := trap.New(0)
		x.Set(14, text)
		n := program(t, strings.Join(x.Lines(), ""))
		if len(n.Kids) != 1 || len(n.Kids[0].Words) != 4 {
			t.Fatalf("%q is read as %v", x.Lines(), n)
		}
		var got string
		for _, part := range n.Kids[0].Words[2] {
			got += part.Text
		}
		if got != text {
			t.Errorf("the action of %q is read as %q", text, got)
		}
	}
}

// Answers are new memory, with their spare room.
func TestMemory(t *testing.T) {
	x := full()
	l := x.Lines()
	for i := range l[:cap(l)] {
		l[:cap(l)][i] = "other"
	}
	lines(t, x, "trap -- '' EXIT\n", "trap -- 'a; b' HUP\n", "trap -- 'c' INT\n", "trap -- '' TERM\n")
}
