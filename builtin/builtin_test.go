package builtin_test

import (
	"fmt"
	"reflect"
	"slices"
	"strings"
	"testing"

	"deadfall/api"
	"deadfall/builtin"
	"deadfall/frame"
	"deadfall/kern"
	"deadfall/parse"
	"deadfall/state"
)

// The kinds of effects, and of the items that the rows below speak of, by their numbers.
const (
	plain, leave, returned, waits                        = 1, 2, 3, 4
	do, rest, cond, again, next, back, wait, calm, over  = 1, 2, 6, 7, 8, 9, 11, 12, 13
	hup, intr, quit, kill, usr1, term, chld, stop, winch = 1, 2, 3, 9, 10, 15, 17, 19, 28
	byDefault, ignored, caught                           = 0, 1, 2
	special                                              = ": break continue exit return set shift trap"
	others                                               = "echo false kill true wait"
)

// place is where a builtin is done: by the process pid, which has the State.
type place struct {
	s   *state.State
	k   *kern.Table
	pid int
}

// fresh is a place of the process 1: QUIT is ignored on entry, there are the arguments a, b and c, and the status is 7.
func fresh() place {
	x := place{state.New(1<<quit, program("a; b")), kern.New(1 << quit), 1}
	x.s.Scope.SetArgs("a", "b", "c")
	x.s.Scope.SetStatus(7)
	return x
}

// family is a fresh place in which 2 is a remains, of the status 5, 3 and 5 are live, children of 1 as 2 is, and 4 is a child of 3.
func family() place {
	x := fresh()
	for _, parent := range []int{1, 1, 3, 1} {
		x.k.Fork(parent)
	}
	x.k.Exit(2, 5)
	return x
}

// full is a family that has some of all that there is.
func full() place {
	x := family()
	x.s.Scope.Set("v", "1")
	x.s.Scope.SetLast(5)
	x.s.Strict = true
	x.s.Define("f", program("c"))
	for _, s := range []int{0, intr, term} {
		x.s.Traps.Set(s, "echo t")
		x.k.Put(1, s, caught)
	}
	x.s.Traps.Set(hup, "")
	x.k.Put(1, hup, ignored)
	x.k.Send(1, term)
	x.s.Stack.Push(item(next, 1), item(back, 2), item(cond, 3), item(do, 4), item(again, 5), item(rest, 6))
	return x
}

// program is the tree of a text that is one.
func program(text string) api.Node {
	n, at, err := parse.Parse(text)
	if err != api.OK {
		panic(fmt.Sprintf("%q is no program: %d at %d", text, err, at))
	}
	return n
}

// item is an item of a kind, by which all that it has can be told from that of others.
func item(kind, i int) frame.Item {
	name := string(rune('a' + i%26))
	return frame.Item{Kind: kind, Node: api.Node{Kind: api.For, Name: name}, At: 100 + i, Status: 50 + i, Free: i%2 == 0, Words: []string{"w" + name, "", "x y"}, Pids: []int{i, 7}}
}

// put puts items of these kinds on the Stack, upon what is there.
func (x place) put(kinds ...int) place {
	for i, kind := range kinds {
		x.s.Stack.Push(item(kind, i))
	}
	return x
}

// items are those of the Stack, the lowest one first; it takes them off, and puts them back.
func (x place) items() []frame.Item {
	var l []frame.Item
	for range x.s.Stack.Len() {
		y, _ := x.s.Stack.Pop()
		l = append(l, y)
	}
	slices.Reverse(l)
	x.s.Stack.Push(l...)
	return l
}

// tells is all that a place tells.
func (x place) tells() string {
	var b strings.Builder
	s := x.s
	fmt.Fprintf(&b, "strict %v, args %q, status %d, last %d\n", s.Strict, s.Scope.Args(), s.Scope.Status(), s.Scope.Last())
	for _, name := range s.Scope.Names() {
		v, _ := s.Scope.Get(name)
		fmt.Fprintf(&b, "%s=%q\n", name, v)
	}
	fmt.Fprintf(&b, "entry %b, lines %q\n", s.Traps.Entry(), s.Traps.Lines())
	for cond := range 32 {
		if text, n := s.Traps.Action(cond); text != "" || n.Kind != 0 || s.Traps.How(cond) != 0 {
			fmt.Fprintln(&b, cond, s.Traps.How(cond), text, n)
		}
	}
	fmt.Fprintf(&b, "items %+v\nfuncs %q\n", x.items(), s.Funcs())
	for _, name := range s.Funcs() {
		n, _ := s.Func(name)
		fmt.Fprintln(&b, n)
	}
	fmt.Fprintln(&b, x.k.Len(), x.k.Procs(), x.k.Ends())
	for pid := range 70 {
		if !x.k.Live(pid) {
			continue
		}
		fmt.Fprintf(&b, "%d children %v, pending %b, how ", pid, x.k.Children(pid), x.k.Pending(pid))
		for s := range 32 {
			b.WriteByte('0' + byte(x.k.How(pid, s)))
		}
	}
	return b.String()
}

// same: two effects are the same; a list may be nil or empty.
func same(a, b builtin.Effect) bool {
	if !slices.Equal(a.Pids, b.Pids) {
		return false
	}
	a.Pids, b.Pids = nil, nil
	return reflect.DeepEqual(a, b)
}

// does does a builtin, and holds its effect. What is handed in has spare room; neither is written into, and both are written over behind the call.
func (x place) does(t *testing.T, want builtin.Effect, words ...string) {
	t.Helper()
	room := slices.Concat(words, []string{"spare", "room"})
	was := slices.Clone(room)
	got := builtin.Do(x.s, x.k, x.pid, room[:len(words)]...)
	if !same(got, want) {
		t.Errorf("%.60q is %+v, not %+v", words, got, want)
	}
	if !slices.Equal(room, was) {
		t.Errorf("%.60q: the words are %.60q behind it", words, room)
	}
	for i := range room {
		room[i] = "over"
	}
}

// keeps does a builtin that should change nothing.
func (x place) keeps(t *testing.T, want builtin.Effect, words ...string) {
	t.Helper()
	was := x.tells()
	x.does(t, want, words...)
	if got := x.tells(); got != was {
		t.Errorf("%.60q changes what is told, from\n%s\nto\n%s", words, was, got)
	}
}

// changes does a builtin that should do just what is done by hand to a place that is the same.
func changes(t *testing.T, made func() place, want builtin.Effect, byHand func(x place), words ...string) {
	t.Helper()
	x, y := made(), made()
	x.does(t, want, words...)
	byHand(y)
	if got, want := x.tells(), y.tells(); got != want {
		t.Errorf("behind %.60q is told\n%s\nnot\n%s", words, got, want)
	}
}

// ends is a Plain effect.
func ends(status int) builtin.Effect {
	return builtin.Effect{Kind: plain, Status: status}
}

// misused is the effect of what is.
func misused() builtin.Effect {
	return builtin.Effect{Kind: leave, Status: 2}
}

// cut is a row's words, with blanks between them.
func cut(row string) []string {
	return strings.Split(row, " ")
}

// notNumbers are operands that have no number: none is a word of more than one.
var notNumbers = []string{"", "x", "-", "+", "--", "-1", "+1", " 1", "1 ", "1x", "0x1", "1000000000", "0000000001", "$1", "\u0661", "\xff", "1\n", strings.Repeat("1", 1<<16)}

// P17.1 Is, Special: these, and no others.
func TestIs(t *testing.T) {
	is := func(name string, is, isSpecial bool) {
		t.Helper()
		if builtin.Is(name) != is || builtin.Special(name) != isSpecial {
			t.Errorf("%.40q: %v, %v", name, builtin.Is(name), builtin.Special(name))
		}
	}
	all := append(cut(special), cut(others)...)
	for _, name := range all {
		isSpecial := slices.Contains(cut(special), name)
		is(name, true, isSpecial)
		for _, wrong := range []string{name + " ", " " + name, name + "\x00", name + "s", name + name, "-" + name, name[1:] + "!"} {
			is(wrong, false, false)
		}
		if name != ":" {
			is(strings.ToUpper(name), false, false)
			is(name[1:], false, false)
			is(name[:len(name)-1], false, false)
		}
	}
	for c := range 256 {
		name := string([]byte{byte(c)})
		is(name, c == ':', c == ':')
	}
	for _, name := range cut(" if fi then { } ! . [ test cd eval exec export readonly times unset printf read umask jobs fg bg command getopts alias local type EXIT") {
		is(name, false, false)
	}
	is(strings.Repeat("echo", 1<<14), false, false)
}

// P17.1 Do: a zero effect, and nothing, without words, or where the first one is no builtin.
func TestNone(t *testing.T) {
	x := full()
	x.keeps(t, builtin.Effect{})
	for _, name := range []string{"", "f", "a", "if", "ECHO", "echo ", "exit\n", "-", "--", "\xff"} {
		x.keeps(t, builtin.Effect{}, name)
		x.keeps(t, builtin.Effect{}, name, "exit", "-s", "1", "a=b")
	}
}

// P17.1: the first word alone says what is done: a builtin's name as an operand is an operand.
func TestFirstWord(t *testing.T) {
	x := full()
	for _, name := range append(cut(special), cut(others)...) {
		x.keeps(t, ends(0), ":", name, "1")
		x.keeps(t, builtin.Effect{Kind: plain, Text: name + " 1\n"}, "echo", name, "1")
	}
}

// P17.2: the ones that do nothing, whatever their operands are.
func TestNothing(t *testing.T) {
	x := full()
	for _, operands := range [][]string{nil, {"x"}, {"--"}, {"1", "2"}, {"-e", ""}, {"\x00"}} {
		x.keeps(t, ends(0), append([]string{":"}, operands...)...)
		x.keeps(t, ends(0), append([]string{"true"}, operands...)...)
		x.keeps(t, ends(1), append([]string{"false"}, operands...)...)
	}
}

// P17.2 echo: its operands as they are.
func TestEcho(t *testing.T) {
	x := full()
	long := strings.Repeat("ab ", 1<<16)
	many := strings.Fields(strings.Repeat("q ", 5000))
	for _, r := range []struct {
		operands []string
		want     string
	}{
		{nil, "\n"}, {[]string{""}, "\n"}, {[]string{"", ""}, " \n"}, {[]string{"a"}, "a\n"}, {[]string{"a", "b", "c"}, "a b c\n"},
		{[]string{"a", "", "b"}, "a  b\n"}, {[]string{"", "a", ""}, " a \n"}, {[]string{"a  b", " c "}, "a  b  c \n"},
		{[]string{"-n"}, "-n\n"}, {[]string{"-n", "a"}, "-n a\n"}, {[]string{"-e", `a\nb\c`}, "-e a\\nb\\c\n"}, {[]string{"--", "a"}, "-- a\n"},
		{[]string{"$x", "*", "'"}, "$x * '\n"}, {[]string{"a\n", "\n"}, "a\n \n\n"}, {[]string{"\x00\xff", "é"}, "\x00\xff é\n"},
		{[]string{long, long}, long + " " + long + "\n"}, {many, strings.Repeat("q ", 4999) + "q\n"},
	} {
		x.keeps(t, builtin.Effect{Kind: plain, Text: r.want}, append([]string{"echo"}, r.operands...)...)
	}
}

// P17.2 shift: of so many, up to all there are.
func TestShift(t *testing.T) {
	for _, r := range []struct {
		words  string
		status int
		args   string
	}{
		{"shift", 0, "b c"}, {"shift 0", 0, "a b c"}, {"shift 00", 0, "a b c"}, {"shift 1", 0, "b c"}, {"shift 2", 0, "c"}, {"shift 3", 0, ""}, {"shift 000000003", 0, ""},
		{"shift 4", 1, "a b c"}, {"shift 004", 1, "a b c"}, {"shift 256", 1, "a b c"}, {"shift 999999999", 1, "a b c"},
	} {
		changes(t, fresh, ends(r.status), func(x place) { x.s.Scope.SetArgs(strings.Fields(r.args)...) }, cut(r.words)...)
	}
	x := fresh()
	for i, status := range []int{0, 0, 0, 1, 1} {
		x.does(t, ends(status), "shift")
		if got, want := x.s.Scope.Args(), []string{"a", "b", "c"}[min(i+1, 3):]; !slices.Equal(got, want) {
			t.Errorf("%d: the arguments are %q", i, got)
		}
	}
	x.keeps(t, ends(0), "shift", "0")
}

// P17.2 to P17.4: those that take one number are misused with none that Read has, and with more operands than one; nothing else is done.
func TestMisused(t *testing.T) {
	for _, name := range []string{"shift", "exit", "return", "break", "continue"} {
		for _, x := range []place{fresh(), full(), fresh().put(next, calm, cond), fresh().put(back, next, over)} {
			for _, operand := range notNumbers {
				x.keeps(t, misused(), name, operand)
				x.keeps(t, misused(), name, "1", operand)
				x.keeps(t, misused(), name, operand, "1")
			}
			for _, operands := range []string{"1 1", "0 0", "1 2 3", "-- 1", "1 --"} {
				x.keeps(t, misused(), append([]string{name}, cut(operands)...)...)
			}
		}
	}
}

// P17.3 exit: of a number, of what was ahead of the action, else of the status; nothing but the effect comes of it.
func TestExit(t *testing.T) {
	for n, want := range map[string]int{"0": 0, "1": 1, "007": 7, "255": 255, "256": 0, "257": 1, "300": 44, "999999999": 255, "000000000": 0} {
		fresh().keeps(t, builtin.Effect{Kind: leave, Status: want}, "exit", n)
		full().keeps(t, builtin.Effect{Kind: leave, Status: want}, "exit", n)
		fresh().put(calm).keeps(t, builtin.Effect{Kind: leave, Status: want}, "exit", n)
	}
	for _, r := range []struct {
		kinds []int
		want  int
	}{
		{nil, 7}, {[]int{back}, 7}, {[]int{next, back, cond, rest}, 7}, {[]int{wait}, 7},
		{[]int{calm}, 50}, {[]int{over}, 50}, {[]int{do, calm}, 51}, {[]int{calm, over}, 51}, {[]int{over, calm, do}, 51},
		{[]int{calm, back}, 50}, {[]int{over, back, next, do}, 50}, {[]int{over, rest, calm, back, back}, 52},
	} {
		fresh().put(r.kinds...).keeps(t, builtin.Effect{Kind: leave, Status: r.want}, "exit")
	}
	for status, want := range map[int]int{0: 0, 1: 1, 130: 130, 255: 255, 256: 0, 300: 44, -1: 255, -256: 0} {
		x := fresh()
		x.s.Scope.SetStatus(status)
		x.keeps(t, builtin.Effect{Kind: leave, Status: want}, "exit")
		x.s.Scope.SetStatus(9)
		x.s.Stack.Push(frame.Item{Kind: over, Status: status})
		x.keeps(t, builtin.Effect{Kind: leave, Status: want}, "exit")
	}
}

// P17.3 return: the function's caller has its arguments again, and its items go.
func TestReturn(t *testing.T) {
	for _, r := range []struct {
		kinds []int
		at    int
	}{{[]int{back}, 0}, {[]int{do, back}, 1}, {[]int{rest, rest, back, do}, 2}, {[]int{next, back, next, again, rest}, 1}, {[]int{back, back}, 1}, {[]int{over, calm, back, cond}, 2}, {[]int{back, calm, rest, back, do, do}, 3}} {
		for words, status := range map[string]int{"return": 7, "return 0": 0, "return 4": 4, "return 007": 7, "return 255": 255, "return 256": 0, "return 300": 44} {
			y := item(back, r.at)
			want := builtin.Effect{Kind: returned, Status: status, Free: y.Free}
			changes(t, func() place { return fresh().put(r.kinds...) }, want, func(x place) {
				for range len(r.kinds) - r.at {
					x.s.Stack.Pop()
				}
				x.s.Scope.SetArgs(y.Words...)
			}, cut(words)...)
		}
	}
}

// P17.3 return: of the status, in an action, too, where exit is of what was ahead of it.
func TestReturnStatus(t *testing.T) {
	for status, want := range map[int]int{0: 0, 1: 1, 130: 130, 255: 255, 256: 0, 300: 44, -1: 255} {
		for _, free := range []bool{false, true} {
			x := fresh().put(calm)
			x.s.Stack.Push(frame.Item{Kind: back, Status: 99, Free: free})
			x.s.Scope.SetStatus(status)
			x.does(t, builtin.Effect{Kind: returned, Status: want, Free: free}, "return")
			if l := x.s.Scope.Args(); len(l) != 0 || x.s.Scope.Status() != status {
				t.Errorf("the arguments are %q, the status is %d", l, x.s.Scope.Status())
			}
		}
	}
}

// P17.3 return: where the uppermost wall is no function's, or there is none, 2, and nothing.
func TestReturnNone(t *testing.T) {
	for _, kinds := range [][]int{nil, {next, do, cond}, {calm}, {over}, {back, calm}, {back, over, rest, next}, {back, back, calm, do}} {
		x := fresh().put(kinds...)
		for _, words := range []string{"return", "return 0", "return 4", "return 999999999"} {
			x.keeps(t, ends(2), cut(words)...)
		}
	}
}

// What the Stack's items had is nobody's to write into, as the arguments are shifted and set.
func TestReturnedWords(t *testing.T) {
	words := []string{"x", "y", "z"}
	x := fresh()
	x.s.Stack.Push(frame.Item{Kind: back, Words: words})
	x.does(t, builtin.Effect{Kind: returned, Status: 7}, "return")
	x.does(t, ends(0), "shift", "2")
	x.does(t, ends(0), "set", "n")
	if !slices.Equal(words, []string{"x", "y", "z"}) {
		t.Errorf("the words are %q", words)
	}
}

// P17.4 break, continue: of so many loops, at most of all above the uppermost wall.
func TestLoops(t *testing.T) {
	kinds := []int{next, back, cond, do, next, rest, again, do}
	made := func() place { return fresh().put(kinds...) }
	for words, at := range map[string]int{"": 7, " 1": 7, " 001": 7, " 2": 5, " 3": 3, " 4": 3, " 9": 3, " 999999999": 3} {
		n := map[int]int{7: 1, 5: 2, 3: 3}[at]
		changes(t, made, ends(0), func(x place) {
			for x.s.Stack.Len() > at {
				x.s.Stack.Pop()
			}
		}, cut("break"+words)...)
		changes(t, made, ends(0), func(x place) {
			if !x.s.Stack.Continue(n) || x.s.Stack.Len() != at+1 {
				t.Fatalf("Continue of %d leaves %d items", n, x.s.Stack.Len())
			}
		}, cut("continue"+words)...)
	}
}

// P17.4 continue: the loop goes on: a Next as it is, others as an Again.
func TestContinue(t *testing.T) {
	for kind, want := range map[int]frame.Item{next: item(next, 0), cond: {Kind: again, Node: item(cond, 0).Node, Free: true}, again: {Kind: again, Node: item(again, 0).Node, Free: true}} {
		x := fresh().put(kind, do, do)
		x.does(t, ends(0), "continue")
		if l := x.items(); len(l) != 2 || !reflect.DeepEqual(l[1], want) {
			t.Errorf("behind it are %+v", l)
		}
	}
}

// P17.4: without loops, nothing; but nought is misused all the same.
func TestNoLoops(t *testing.T) {
	for _, kinds := range [][]int{nil, {back}, {next, back, do}, {cond, again, calm}, {next, over, rest}} {
		x := fresh().put(kinds...)
		for _, name := range []string{"break", "continue"} {
			for _, operand := range []string{"1", "2", "007", "999999999"} {
				x.keeps(t, ends(0), name, operand)
			}
			x.keeps(t, ends(0), name)
			for _, operand := range []string{"0", "00", "000000000"} {
				x.keeps(t, misused(), name, operand)
				fresh().put(next, cond).keeps(t, misused(), name, operand)
			}
		}
	}
}

// P17.5 set: options as long as they come first, then the arguments.
func TestSet(t *testing.T) {
	abc := []string{"a", "b", "c"}
	for _, r := range []struct {
		operands []string
		yes      bool // whether it is misused
		strict   string
		args     []string
	}{
		{nil, false, "", abc}, {[]string{"-e"}, false, "on", abc}, {[]string{"+e"}, false, "off", abc}, {[]string{"-e", "+e"}, false, "off", abc}, {[]string{"+e", "+e", "-e"}, false, "on", abc},
		{[]string{"--"}, false, "", nil}, {[]string{"-e", "--"}, false, "on", nil}, {[]string{"+e", "--", "x"}, false, "off", []string{"x"}}, {[]string{"--", "--"}, false, "", []string{"--"}}, {[]string{"--", "-e"}, false, "", []string{"-e"}}, {[]string{"--", "+x", "-"}, false, "", []string{"+x", "-"}},
		{[]string{"x"}, false, "", []string{"x"}}, {[]string{"x", "y", "", "z w"}, false, "", []string{"x", "y", "", "z w"}}, {[]string{"x", "-e"}, false, "", []string{"x", "-e"}}, {[]string{"x", "--", "y"}, false, "", []string{"x", "--", "y"}}, {[]string{"x", "-x"}, false, "", []string{"x", "-x"}},
		{[]string{"-e", "x"}, false, "on", []string{"x"}}, {[]string{"+e", "x", "-e"}, false, "off", []string{"x", "-e"}}, {[]string{""}, false, "", []string{""}}, {[]string{"-e", ""}, false, "on", []string{""}}, {[]string{" -e"}, false, "", []string{" -e"}}, {[]string{"e"}, false, "", []string{"e"}}, {[]string{"\xff", "="}, false, "", []string{"\xff", "="}},
		{[]string{"-"}, true, "", abc}, {[]string{"+"}, true, "", abc}, {[]string{"-x"}, true, "", abc}, {[]string{"+x", "y"}, true, "", abc}, {[]string{"-ee"}, true, "", abc}, {[]string{"-E"}, true, "", abc}, {[]string{"---"}, true, "", abc}, {[]string{"--e"}, true, "", abc}, {[]string{"++"}, true, "", abc}, {[]string{"-e "}, true, "", abc}, {[]string{"-u", "--", "x"}, true, "", abc},
		{[]string{"-e", "-"}, true, "on", abc}, {[]string{"+e", "-x", "y"}, true, "off", abc}, {[]string{"-e", "+e", "+", "-e"}, true, "off", abc}, {[]string{"-e", "+e", "-e", "-o", "x"}, true, "on", abc},
	} {
		for _, was := range []bool{false, true} {
			want := ends(0)
			if r.yes {
				want = misused()
			}
			changes(t, func() place { x := fresh(); x.s.Strict = was; return x }, want, func(x place) {
				x.s.Strict = r.strict == "on" || r.strict == "" && was
				x.s.Scope.SetArgs(r.args...)
			}, append([]string{"set"}, r.operands...)...)
		}
	}
}
