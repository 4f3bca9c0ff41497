package state_test

import (
	"fmt"
	"math"
	"reflect"
	"slices"
	"strings"
	"testing"

	"deadfall/api"
	"deadfall/frame"
	"deadfall/parse"
	"deadfall/state"
	"deadfall/trap"
	"deadfall/vars"
)

// The kind of an item that is Do, by its number.
const do = 1

const (
	letters = "_abcdefghijklmnopqrstuvwxyzABCDEFGHIJKLMNOPQRSTUVWXYZ"
	digits  = "0123456789"
)

// isName tells by chapter 2's words whether a text is a Name.
func isName(s string) bool {
	return s != "" && strings.IndexByte(letters, s[0]) >= 0 && strings.Trim(s, letters+digits) == ""
}

// program is the tree of a text that is one.
func program(text string) api.Node {
	n, at, err := parse.Parse(text)
	if err != api.OK {
		panic(fmt.Sprintf("%q is no program: %d at %d", text, err, at))
	}
	return n
}

// command is a node by which it can be told from others.
func command(i int) api.Node {
	return api.Node{Kind: api.Group, Kids: []api.Node{program(fmt.Sprintf("echo c%d; d & e", i))}}
}

// fresh is a State of a program, with QUIT ignored on entry.
func fresh() *state.State {
	return state.New(1<<3, program("a; b"))
}

// full is a State that has some of all that there is.
func full() *state.State {
	s := fresh()
	s.Scope.Set("x", "1")
	s.Scope.Set("y", "")
	s.Scope.SetArgs("a", "b c", "")
	s.Scope.SetStatus(3)
	s.Scope.SetLast(9)
	s.Traps.Set(0, "end")
	s.Traps.Set(1, "")
	s.Traps.Set(2, "caught")
	s.Stack.Push(frame.Item{Kind: frame.Cond, Node: command(20), Status: 4}, frame.Item{Kind: frame.Wait, At: 1, Words: []string{"all"}, Pids: []int{2, 3}})
	s.Strict = true
	s.Define("f", command(1))
	s.Define("g", command(2))
	return s
}

// items are those of a Stack, the lowest one first; it takes them off, and puts them back.
func items(s *frame.Stack) []frame.Item {
	var l []frame.Item
	for range s.Len() {
		x, _ := s.Pop()
		l = append(l, x)
	}
	slices.Reverse(l)
	s.Push(l...)
	return l
}

// tells is all that a State tells.
func tells(s *state.State) string {
	var b strings.Builder
	fmt.Fprintf(&b, "strict %v\n", s.Strict)
	for _, name := range append(s.Scope.Names(), "1", "2", "3", "4", "#", "?", "!", "@") {
		v, ok := s.Scope.Get(name)
		fmt.Fprintf(&b, "%s: %q %v\n", name, v, ok)
	}
	fmt.Fprintf(&b, "args %q, status %d, last %d\n", s.Scope.Args(), s.Scope.Status(), s.Scope.Last())
	fmt.Fprintf(&b, "entry %b, lines %q\n", s.Traps.Entry(), s.Traps.Lines())
	for cond := range 32 {
		text, n := s.Traps.Action(cond)
		fmt.Fprintf(&b, "%d: %d %q %v\n", cond, s.Traps.How(cond), text, n)
	}
	fmt.Fprintf(&b, "items %+v\nfuncs %q\n", items(s.Stack), s.Funcs())
	for _, name := range append(s.Funcs(), "", "f", "g", "h", "x") {
		n, ok := s.Func(name)
		fmt.Fprintf(&b, "%q: %v %v\n", name, n, ok)
	}
	return b.String()
}

// kept does what should change nothing of a State.
func kept(t *testing.T, s *state.State, what string, call func()) {
	t.Helper()
	was := tells(s)
	call()
	if got := tells(s); got != was {
		t.Errorf("%s changes what is told, from\n%s\nto\n%s", what, was, got)
	}
}

// alone: there is one Do of this node to do, Free or not, and nothing else is said of it.
func alone(t *testing.T, s *state.State, n api.Node, free bool) {
	t.Helper()
	want := []frame.Item{{Kind: do, Node: n, Free: free}}
	if got := items(s.Stack); !reflect.DeepEqual(got, want) {
		t.Errorf("to do is %+v, not %+v", got, want)
	}
}

// is: the function has this command.
func is(t *testing.T, s *state.State, name string, want api.Node) {
	t.Helper()
	if n, ok := s.Func(name); !ok || !reflect.DeepEqual(n, want) {
		t.Errorf("Func(%.40q) is %v, %v, not %v", name, n, ok, want)
	}
}

// none: there are no functions of these names.
func none(t *testing.T, s *state.State, names ...string) {
	t.Helper()
	for _, name := range names {
		if n, ok := s.Func(name); ok || !reflect.DeepEqual(n, api.Node{}) {
			t.Errorf("Func(%.40q) is %v, %v", name, n, ok)
		}
	}
}

// funcs: there are these functions.
func funcs(t *testing.T, s *state.State, want ...string) {
	t.Helper()
	if got := s.Funcs(); !slices.Equal(got, want) {
		t.Errorf("Funcs() is %.200q, not %.200q", got, want)
	}
}

// define defines a function, and holds whether it was taken.
func define(t *testing.T, s *state.State, name string, n api.Node, takes bool) {
	t.Helper()
	if got := s.Define(name, n); got != takes {
		t.Errorf("Define(%.40q) is %v", name, got)
	}
}

// P16.1 New: an empty Scope, nothing of any condition, the node to do, not Strict, no functions.
func TestNew(t *testing.T) {
	nodes := []api.Node{{}, {Kind: api.List}, program("a; b & c"), {Kind: api.Simple, Name: "first"}, {Kind: -7, Name: "none", Given: true}, command(1)}
	for _, n := range nodes {
		s := state.New(0, n)
		alone(t, s, n, false)
		if !reflect.DeepEqual(s.Scope, &vars.Scope{}) {
			t.Errorf("the Scope is %+v", s.Scope)
		}
		if s.Strict {
			t.Error("it is Strict")
		}
		funcs(t, s)
		none(t, s, "", "f", "first", "none", "a")
	}
}

// P16.1 New: the Traps are those of the signals that are ignored on entry.
func TestNewEntry(t *testing.T) {
	for _, entry := range []api.Set{0, 1, 1 << 1, 1 << 3, 1 << 9, 1 << 19, 1<<2 | 1<<9 | 1<<15, 1 << 31, math.MaxUint32} {
		s := state.New(entry, api.Node{})
		if want := trap.New(entry); !reflect.DeepEqual(s.Traps, want) {
			t.Errorf("New of %b: %+v, not %+v", entry, s.Traps, want)
		}
		if s.Traps.How(0) != 0 || len(s.Traps.Lines()) != 0 {
			t.Errorf("New of %b: %d, %q", entry, s.Traps.How(0), s.Traps.Lines())
		}
	}
	s := state.New(1<<3|1<<9, api.Node{})
	if s.Traps.Entry() != 1<<3 || s.Traps.How(3) != 1 || s.Traps.How(9) != 0 || s.Traps.How(2) != 0 {
		t.Errorf("entry is %b", s.Traps.Entry())
	}
}

// P16.1 New: each is another State.
func TestNewIsAnother(t *testing.T) {
	a, b := fresh(), fresh()
	kept(t, a, "what is done to another one", func() { change(b) })
	kept(t, fresh(), "what is done to one that was new", func() { change(a) })
}

// change does something to all that a State has.
func change(s *state.State) {
	s.Scope.Set("x", "other")
	s.Scope.Set("z", "new")
	s.Scope.SetArgs("other")
	s.Scope.SetStatus(77)
	s.Scope.SetLast(78)
	s.Traps.Set(0, "other")
	s.Traps.Set(2, "other")
	s.Traps.Reset(1)
	s.Traps.Set(4, "")
	s.Stack.Pop()
	s.Stack.Push(frame.Item{Kind: frame.Rest}, frame.Item{Kind: frame.Back, Words: []string{"other"}})
	s.Strict = !s.Strict
	s.Define("f", command(11))
	s.Define("h", command(12))
}

// P16.1 Define, Func: the command is this one from now on.
func TestDefine(t *testing.T) {
	s := fresh()
	define(t, s, "f", command(1), true)
	is(t, s, "f", command(1))
	none(t, s, "g", "F", "ff", "f ", " f", "f\x00", "")
	define(t, s, "g", command(2), true)
	is(t, s, "f", command(1))
	is(t, s, "g", command(2))
	define(t, s, "f", command(3), true)
	is(t, s, "f", command(3))
	is(t, s, "g", command(2))
	funcs(t, s, "f", "g")
	define(t, s, "f", command(3), true)
	funcs(t, s, "f", "g")
}

// P16.1 Define, Func: any node is kept whole, a zero one, too, which is a function all the same.
func TestDefineAnyNode(t *testing.T) {
	s := fresh()
	nodes := []api.Node{{}, {Kind: -1, Name: "n", Given: true}, program("f() { g; } & case x in a|b) c;; *) ;; esac"), {Kind: api.Func, Name: "f", Kids: []api.Node{command(4)}}, {Kind: 99, Assigns: []api.Assign{{Name: "1"}}, Beside: []bool{true, false}}}
	for _, n := range nodes {
		define(t, s, "f", n, true)
		is(t, s, "f", n)
		funcs(t, s, "f")
	}
	define(t, s, "f", api.Node{}, true)
	define(t, s, "1", command(1), false)
	is(t, s, "f", api.Node{})
}

// P16.1 Define: what is no Name is not taken, and nothing changes; reserved words, builtins' names and variables' are Names as others are.
func TestDefineNames(t *testing.T) {
	right := []string{"_", "__", "_1", "a", "Z", "a1b_2", "if", "fi", "in", "echo", "exit", "x", strings.Repeat("a", 1<<16), strings.Repeat("_9", 1<<12)}
	wrong := []string{"", "1", "1a", "0", "a-", "a.b", "a b", " a", "a\n", "a=", "$a", "@", "*", "#", "?", "$", "!", ":", "{", "}", "é", "aé", "\xff", "a\xff", "\x00", "a\x00", "½", strings.Repeat("a", 1<<16) + "-", "a" + strings.Repeat(" ", 1<<12)}
	s := full()
	for i, name := range right {
		define(t, s, name, command(i), true)
		is(t, s, name, command(i))
	}
	for _, name := range wrong {
		kept(t, s, fmt.Sprintf("Define(%.20q)", name), func() { define(t, s, name, command(9), false) })
		none(t, s, name)
	}
	is(t, s, "x", command(11))
	if v, ok := s.Scope.Get("x"); v != "1" || !ok {
		t.Errorf("the variable x is %q, %v", v, ok)
	}
}

// P16.1: all texts of one and two bytes: what is taken, and told, rising byte by byte.
func TestShortNames(t *testing.T) {
	var texts, want []string
	for c := range 256 {
		texts = append(texts, string([]byte{byte(c)}))
		for d := range 256 {
			texts = append(texts, string([]byte{byte(c), byte(d)}))
		}
	}
	s := fresh()
	for i := len(texts) - 1; i >= 0; i-- {
		define(t, s, texts[i], api.Node{Name: texts[i]}, isName(texts[i]))
	}
	for _, name := range texts {
		if isName(name) {
			is(t, s, name, api.Node{Name: name})
			want = append(want, name)
		} else {
			none(t, s, name)
		}
	}
	funcs(t, s, want...)
}

// P16.1 Funcs: rising byte by byte, in whatever order they were defined, as often as it is asked.
func TestFuncsRise(t *testing.T) {
	s := fresh()
	funcs(t, s)
	for _, name := range []string{"b", "a", "a_", "aa", "_", "B", "A", "a1", "ab", "a10", "a2", "Z", "z", "aB"} {
		define(t, s, name, command(0), true)
	}
	for range 20 {
		funcs(t, s, "A", "B", "Z", "_", "a", "a1", "a10", "a2", "aB", "a_", "aa", "ab", "b", "z")
	}
}

// P16.1: there may be many.
func TestManyFuncs(t *testing.T) {
	s := fresh()
	var want []string
	for i := range 5000 {
		name := fmt.Sprintf("f%04d", (i*37)%5000)
		define(t, s, name, api.Node{Name: name}, true)
		want = append(want, fmt.Sprintf("f%04d", i))
	}
	c := s.Fork(command(1), false)
	for _, x := range []*state.State{s, c} {
		funcs(t, x, want...)
		for _, name := range want {
			is(t, x, name, api.Node{Name: name})
		}
	}
}

// P16.1: what is answered is new memory, spare room too.
func TestFuncsIsNew(t *testing.T) {
	s := full()
	s.Define("h", command(3))
	l, other := s.Funcs(), s.Funcs()
	for i := range l[:cap(l)] {
		l[:cap(l)][i] = "0"
	}
	if !slices.Equal(other, []string{"f", "g", "h"}) {
		t.Errorf("the other answer is %q", other)
	}
	funcs(t, s, "f", "g", "h")
}

// P16.1: functions are nothing of the Scope, the Traps and the Stack.
func TestDefineAlone(t *testing.T) {
	a, b := full(), full()
	a.Define("h", command(3))
	a.Define("x", command(4))
	if !reflect.DeepEqual(a.Scope, b.Scope) || !reflect.DeepEqual(a.Traps, b.Traps) || !reflect.DeepEqual(items(a.Stack), items(b.Stack)) || !a.Strict {
		t.Error("Define changes more than functions")
	}
	c := full()
	c.Scope.Set("h", "v")
	funcs(t, c, "f", "g")
	none(t, c, "h", "x")
}

// P16.2 Fork: all that the other one has, and the node alone to do, Free or not, Strict or not.
func TestFork(t *testing.T) {
	for _, free := range []bool{false, true} {
		for _, strict := range []bool{false, true} {
			for _, n := range []api.Node{{}, command(7), program("x; y")} {
				s := full()
				s.Strict = strict
				c := s.Fork(n, free)
				alone(t, c, n, free)
				if c.Strict != strict {
					t.Errorf("of %v what is forked is Strict: %v", strict, c.Strict)
				}
				if !reflect.DeepEqual(c.Scope, s.Scope) {
					t.Errorf("the Scope is %+v, not %+v", c.Scope, s.Scope)
				}
				if want := s.Traps.Child(); !reflect.DeepEqual(c.Traps, want) {
					t.Errorf("the Traps are %+v, not %+v", c.Traps, want)
				}
				funcs(t, c, "f", "g")
				is(t, c, "f", command(1))
				is(t, c, "g", command(2))
			}
		}
	}
}

// P16.2 Fork, in plain values.
func TestForkTells(t *testing.T) {
	c := full().Fork(command(7), true)
	x, set := c.Scope.Get("x")
	y, empty := c.Scope.Get("y")
	if x != "1" || !set || y != "" || !empty || !slices.Equal(c.Scope.Names(), []string{"x", "y"}) {
		t.Errorf("variables are %q: %q, %q", c.Scope.Names(), x, y)
	}
	if !slices.Equal(c.Scope.Args(), []string{"a", "b c", ""}) || c.Scope.Status() != 3 || c.Scope.Last() != 9 {
		t.Errorf("%q, %d, %d", c.Scope.Args(), c.Scope.Status(), c.Scope.Last())
	}
	for cond, how := range map[int]int{0: 0, 1: 1, 2: 0, 3: 1, 4: 0, 9: 0} {
		if got := c.Traps.How(cond); got != how {
			t.Errorf("how of %d is %d, not %d", cond, got, how)
		}
	}
	if c.Traps.Entry() != 1<<3 || !slices.Equal(c.Traps.Lines(), []string{"trap -- '' HUP\n"}) {
		t.Errorf("entry is %b, lines are %q", c.Traps.Entry(), c.Traps.Lines())
	}
}

// The example of the chapter.
func TestExample(t *testing.T) {
	s := fresh()
	s.Traps.Set(0, "echo bye")
	c := s.Fork(program("echo in"), false)
	text, n := c.Traps.Action(0)
	if c.Traps.How(0) != 0 || text != "" || !reflect.DeepEqual(n, api.Node{}) || len(c.Traps.Lines()) != 0 {
		t.Errorf("what is forked traps the end: %d, %q, %v", c.Traps.How(0), text, n)
	}
	if text, _ := s.Traps.Action(0); text != "echo bye" || s.Traps.How(0) != 2 {
		t.Errorf("the other one has the action %q", text)
	}
}

// family is a State, two of its children, and a child of the first of these.
func family() []*state.State {
	s := full()
	a, b := s.Fork(command(7), false), s.Fork(command(7), true)
	return []*state.State{s, a, b, a.Fork(command(8), true)}
}

// P16.2 Fork: it changes nothing; what is done to the one isn't done to the other one, nor to the one's other children.
func TestForkIsAnother(t *testing.T) {
	s := full()
	kept(t, s, "Fork", func() { s.Fork(command(7), true) })
	for i := range family() {
		all := family()
		var was []string
		for _, x := range all {
			was = append(was, tells(x))
		}
		change(all[i])
		for j, x := range all {
			if got := tells(x); (got == was[j]) != (i != j) {
				t.Errorf("what is done to %d makes what is told of %d, from\n%s\nto\n%s", i, j, was[j], got)
			}
		}
	}
}

// P16.2 Fork: likewise of a State that has nothing yet.
func TestForkOfNew(t *testing.T) {
	s := fresh()
	c := s.Fork(program("c"), false)
	alone(t, c, program("c"), false)
	funcs(t, c)
	if c.Strict || len(c.Scope.Names()) != 0 || len(c.Scope.Args()) != 0 || c.Traps.Entry() != 1<<3 {
		t.Errorf("what is forked tells\n%s", tells(c))
	}
	kept(t, s, "what is done to the child", func() { change(c) })
	kept(t, c, "what is done to the parent", func() { change(s) })
	d := fresh().Fork(api.Node{}, true)
	define(t, d, "f", command(1), true)
	funcs(t, d, "f")
}

// P16.2 Fork: what the State has at the time counts, and an emptied Stack is no hindrance.
func TestForkOfNow(t *testing.T) {
	s := full()
	s.Scope = &vars.Scope{}
	s.Scope.SetStatus(5)
	s.Traps = trap.New(1 << 15)
	s.Traps.Set(6, "")
	s.Stack = &frame.Stack{}
	s.Strict = false
	s.Define("g", command(30))
	c := s.Fork(command(7), true)
	alone(t, c, command(7), true)
	if c.Strict || c.Scope.Status() != 5 || len(c.Scope.Names()) != 0 || c.Traps.Entry() != 1<<15 || c.Traps.How(6) != 1 || c.Traps.How(1) != 0 {
		t.Errorf("what is forked tells\n%s", tells(c))
	}
	is(t, c, "g", command(30))
	if s.Stack.Len() != 0 {
		t.Errorf("%d items are there", s.Stack.Len())
	}
	s.Stack.Clear()
	alone(t, s.Fork(command(8), false), command(8), false)
}
