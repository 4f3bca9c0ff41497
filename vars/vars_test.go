package vars_test

import (
	"fmt"
	"math"
	"slices"
	"sort"
	"strconv"
	"strings"
	"testing"

	"deadfall/class"
	"deadfall/vars"
)

// with is a scope that has these arguments.
func with(l ...string) *vars.Scope {
	s := &vars.Scope{}
	s.SetArgs(l...)
	return s
}

// numbered are n arguments, each of them its own number.
func numbered(n int) []string {
	var l []string
	for i := range n {
		l = append(l, strconv.Itoa(i+1))
	}
	return l
}

// is holds what a parameter means that is set.
func is(t *testing.T, s *vars.Scope, name, want string) {
	t.Helper()
	if v, set := s.Get(name); v != want || !set {
		t.Errorf("Get(%.40q) is %.40q, %v, not %.40q", name, v, set, want)
	}
}

// none holds that a parameter isn't set.
func none(t *testing.T, s *vars.Scope, names ...string) {
	t.Helper()
	for _, name := range names {
		if v, set := s.Get(name); v != "" || set {
			t.Errorf("Get(%.40q) is %.40q, %v, and should not be set", name, v, set)
		}
	}
}

// set gives a variable a value, and says whether the scope takes it.
func set(t *testing.T, s *vars.Scope, name, value string, takes bool) {
	t.Helper()
	if got := s.Set(name, value); got != takes {
		t.Errorf("Set(%.40q, %.40q) is %v", name, value, got)
	}
}

func names(t *testing.T, s *vars.Scope, want ...string) {
	t.Helper()
	if got := s.Names(); !slices.Equal(got, want) {
		t.Errorf("Names() is %.200q, not %.200q", got, want)
	}
}

func args(t *testing.T, s *vars.Scope, want ...string) {
	t.Helper()
	if got := s.Args(); !slices.Equal(got, want) {
		t.Errorf("Args() is %.200q, not %.200q", got, want)
	}
	is(t, s, "#", strconv.Itoa(len(want)))
}

// shift has the first n arguments go, and says whether there are so many.
func shift(t *testing.T, s *vars.Scope, n int, goes bool) {
	t.Helper()
	if got := s.Shift(n); got != goes {
		t.Errorf("Shift(%d) is %v", n, got)
	}
}

// tells is all that a scope tells, but for names nobody asks for.
func tells(s *vars.Scope) string {
	var b strings.Builder
	fmt.Fprintf(&b, "%q %q %d %d\n", s.Names(), s.Args(), s.Status(), s.Last())
	for _, name := range append(s.Names(), "0", "1", "2", "3", "10", "999", "#", "?", "$", "!", "@", "*", "x", "nobody") {
		v, set := s.Get(name)
		fmt.Fprintf(&b, "%q %q %v\n", name, v, set)
	}
	return b.String()
}

// kept calls what should change nothing.
func kept(t *testing.T, s *vars.Scope, call func()) {
	t.Helper()
	was := tells(s)
	call()
	if got := tells(s); got != was {
		t.Errorf("a scope that told\n%.400s\ntells\n%.400s", was, got)
	}
}

// one is a text of one byte.
func one(c int) string { return string([]byte{byte(c)}) }

// Types: the zero one has nothing.
func TestZero(t *testing.T) {
	var s vars.Scope
	for name, want := range map[string]string{"0": "sh", "#": "0", "?": "0", "$": "1"} {
		is(t, &s, name, want)
	}
	none(t, &s, "x", "_", "sh", "1", "2", "9", "10", "999", "!", "@", "*", "")
	names(t, &s)
	args(t, &s)
	if s.Status() != 0 || s.Last() != 0 {
		t.Error(s.Status(), s.Last())
	}
	shift(t, &s, 0, true)
	shift(t, &s, 1, false)
	if c := s.Clone(); c == nil || tells(c) != tells(&s) {
		t.Error("Clone of the zero scope is another one")
	}
}

// P9.1: a Name is the variable's value, if there is one; an empty one is set.
func TestGetVariables(t *testing.T) {
	s := with("a", "b")
	set(t, s, "x", "v", true)
	set(t, s, "_", "", true)
	set(t, s, "sh", "$x `*` \x00\xff\n", true)
	is(t, s, "x", "v")
	is(t, s, "_", "")
	is(t, s, "sh", "$x `*` \x00\xff\n")
	none(t, s, "X", "x1", "_x", "xx", "__", "s", "shh", "x ", " x", "x\x00")
}

// P9.1: `0` is `sh`, and no argument; `$` is `1`, whatever came to pass.
func TestGetShell(t *testing.T) {
	s := with("a", "b")
	for range 2 {
		is(t, s, "0", "sh")
		is(t, s, "$", "1")
		s.SetArgs()
		s.SetStatus(3)
		s.SetLast(7)
		set(t, s, "sh", "v", true)
	}
}

// P9.1: another number is the argument of that number, from 1 on, if there is one.
func TestGetArguments(t *testing.T) {
	s := with("a", "", "c d")
	is(t, s, "1", "a")
	is(t, s, "2", "")
	is(t, s, "3", "c d")
	none(t, s, "4", "10", "11", "12", "13", "100", "999")

	for _, n := range []int{0, 1, 2, 8, 9, 10, 11, 12, 98, 99, 100, 101, 998, 999, 1000, 1001, 5000} {
		s.SetArgs(numbered(n)...)
		for i := 1; i <= 999; i++ {
			if i <= n {
				is(t, s, strconv.Itoa(i), strconv.Itoa(i))
			} else {
				none(t, s, strconv.Itoa(i))
			}
		}
		is(t, s, "#", strconv.Itoa(n))
		is(t, s, "0", "sh")
		none(t, s, "1000", "1001", "5000")
	}
}

// P9.1: `#` is how many arguments there are, `@` and `*` all of them, with a blank between each two, if there are any.
func TestGetAll(t *testing.T) {
	for _, x := range []struct {
		args []string
		all  string
	}{
		{[]string{""}, ""},
		{[]string{"", ""}, " "},
		{[]string{"", "", ""}, "  "},
		{[]string{"a"}, "a"},
		{[]string{"a", "b"}, "a b"},
		{[]string{"a", "", "b"}, "a  b"},
		{[]string{" a ", "\n", "*"}, " a  \n *"},
		{[]string{"", "a"}, " a"},
		{[]string{"a", ""}, "a "},
		{[]string{"\xff", "\x00", "é"}, "\xff \x00 é"},
	} {
		s := with(x.args...)
		is(t, s, "#", strconv.Itoa(len(x.args)))
		is(t, s, "@", x.all)
		is(t, s, "*", x.all)
	}
	none(t, with(), "@", "*")
	is(t, with(), "#", "0")

	long := with(numbered(5000)...)
	is(t, long, "@", strings.Join(numbered(5000), " "))
	is(t, long, "*", strings.Join(numbered(5000), " "))
}

// The chapter's example.
func TestExample(t *testing.T) {
	s := with("a", "b")
	is(t, s, "2", "b")
	is(t, s, "*", "a b")
	none(t, s, "3")
}

// P9.1: `?` is the status, `!` the process that was started beside last, if one was.
func TestGetNumbers(t *testing.T) {
	for _, n := range []int{0, 1, 2, 9, 10, 127, 128, 255, 256, 1000, -1, -10, 999999999, 1000000000, math.MaxInt32 + 1, math.MaxInt64, math.MinInt64} {
		var s vars.Scope
		s.SetStatus(n)
		is(t, &s, "?", fmt.Sprint(n))
		none(t, &s, "!")

		s = vars.Scope{}
		s.SetLast(n)
		is(t, &s, "?", "0")
		if n == 0 {
			none(t, &s, "!")
		} else {
			is(t, &s, "!", fmt.Sprint(n))
		}
	}
	var s vars.Scope
	s.SetLast(5)
	s.SetLast(0)
	none(t, &s, "!")
}

// P9.1: what is no Param isn't set, whatever there is.
func TestGetNoParam(t *testing.T) {
	s := with(numbered(2000)...)
	s.SetStatus(1)
	s.SetLast(2)
	set(t, s, "x", "v", true)
	none(t, s, "", "00", "01", "001", "010", "1000", "0001", "2000", "-1", "+1", "1.", " 1", "1 ", "1x", "0x1", "1_0", "x-", "x.y", "x y", "-x",
		"@@", "*@", "##", "#1", "??", "$$", "!!", "$x", "${x}", "-", "--", "%", "~", "\n", "\x00", "é", "½", "٣", "\xff", "\xc3", "99999999999999999999", strings.Repeat("1", 1<<16), strings.Repeat("-", 1<<16))
}

// P9.1, P9.2: all texts of one and two bytes: what is set, and what a scope takes as a Name.
func TestShortNames(t *testing.T) {
	var texts []string
	for c := range 256 {
		texts = append(texts, one(c))
		for d := range 256 {
			texts = append(texts, one(c)+one(d))
		}
	}
	full := with(numbered(99)...)
	full.SetLast(3)
	var own vars.Scope
	var want []string
	for _, name := range texts {
		set(t, &own, name, "v"+name, class.Name(name))
		if class.Name(name) {
			want = append(want, name)
			is(t, &own, name, "v"+name)
			none(t, full, name)
		} else if v, ok := full.Get(name); ok != class.Param(name) || !ok && v != "" {
			t.Errorf("Get(%q) is %q, %v", name, v, ok)
		}
	}
	sort.Strings(want)
	names(t, &own, want...)
}

// P9.2: the variable of that Name has this value from now on.
func TestSet(t *testing.T) {
	s := with("a")
	set(t, s, "x", "1", true)
	set(t, s, "y", "2", true)
	is(t, s, "x", "1")
	set(t, s, "x", "", true)
	is(t, s, "x", "")
	is(t, s, "y", "2")
	set(t, s, "x", "3", true)
	is(t, s, "x", "3")
	names(t, s, "x", "y")

	// Reserved words, and what builtins are named, are Names as others.
	for _, name := range []string{"if", "done", "echo", "trap", "IFS", "PATH", "_", "__", "_1", "a0", "Z", strings.Repeat("n", 1<<16)} {
		set(t, s, name, "of "+name, true)
		is(t, s, name, "of "+name)
	}
	long := strings.Repeat("v\x00", 1<<16)
	set(t, s, "x", long, true)
	is(t, s, "x", long)
	args(t, s, "a")
}

// P9.2: false, and nothing, if it is no Name.
func TestSetNoName(t *testing.T) {
	s := with("a", "b")
	s.SetStatus(4)
	s.SetLast(5)
	set(t, s, "x", "v", true)
	kept(t, s, func() {
		for _, name := range []string{"", "0", "1", "2", "3", "10", "999", "#", "?", "$", "!", "@", "*", "1a", "9", "a-b", "a=b", "x ", " x", "x\x00", "\x00x", "é", "a\xff", "$x", "!x", "{", strings.Repeat("a", 1<<16) + "-"} {
			set(t, s, name, "w", false)
			set(t, s, name, "", false)
		}
	})
	var zero vars.Scope
	kept(t, &zero, func() { set(t, &zero, "1", "w", false) })
}

// P9.2: those of all variables, rising byte by byte.
func TestNames(t *testing.T) {
	var s vars.Scope
	names(t, &s)
	l := []string{"b", "a", "B", "_", "a1", "a_", "aB", "ab", "aa", "A", "Z", "z", "a10", "a2", "__", "_a", "_Z", "_0"}
	for _, name := range l {
		set(t, &s, name, "", true)
	}
	names(t, &s, "A", "B", "Z", "_", "_0", "_Z", "__", "_a", "a", "a1", "a10", "a2", "aB", "a_", "aa", "ab", "b", "z")
	for _, name := range l {
		set(t, &s, name, "v", true)
	}
	if n := len(s.Names()); n != len(l) {
		t.Error(n)
	}
}

// P9.2: they rise whenever they are asked for, however many there are.
func TestManyNames(t *testing.T) {
	var s vars.Scope
	var want []string
	for i := range 3000 {
		name := fmt.Sprintf("v%d", i*7919%3000)
		set(t, &s, name, name, true)
		want = append(want, name)
	}
	sort.Strings(want)
	for range 3 {
		names(t, &s, want...)
	}
	for _, name := range want {
		is(t, &s, name, name)
	}
}

// P9.3: Args and SetArgs, Status and SetStatus, Last and SetLast are these.
func TestSetters(t *testing.T) {
	var s vars.Scope
	set(t, &s, "x", "v", true)
	for _, l := range [][]string{{"a", "b"}, {}, nil, {""}, {"", ""}, {"c d", "\xff\x00", "*"}, numbered(1 << 12), {"z"}} {
		s.SetArgs(l...)
		args(t, &s, l...)
	}
	for _, n := range []int{1, 0, 255, 256, -1, math.MaxInt64, math.MinInt64, 7} {
		s.SetStatus(n)
		s.SetLast(-1 - n)
		if s.Status() != n || s.Last() != -1-n {
			t.Error(n, s.Status(), s.Last())
		}
	}
	args(t, &s, "z")
	is(t, &s, "x", "v")
	is(t, &s, "?", "7")
	is(t, &s, "!", "-8")
}

// P9.3: the first n arguments aren't there any more.
func TestShift(t *testing.T) {
	for n := range 6 {
		s := with("a", "b", "c", "d", "e")
		set(t, s, "x", "v", true)
		s.SetStatus(3)
		s.SetLast(4)
		shift(t, s, n, true)
		rest := []string{"a", "b", "c", "d", "e"}[n:]
		args(t, s, rest...)
		for i := range 6 {
			if i < len(rest) {
				is(t, s, strconv.Itoa(i+1), rest[i])
			} else {
				none(t, s, strconv.Itoa(i+1))
			}
		}
		if n == 5 {
			none(t, s, "@", "*")
		} else {
			is(t, s, "@", strings.Join(rest, " "))
			is(t, s, "*", strings.Join(rest, " "))
		}
		is(t, s, "0", "sh")
		is(t, s, "x", "v")
		is(t, s, "?", "3")
		is(t, s, "!", "4")
		shift(t, s, 6-n, false)
		shift(t, s, 5-n, true)
		args(t, s)
	}
}

// P9.3: false, and nothing, if n is below 0, or there aren't so many.
func TestShiftNot(t *testing.T) {
	s := with("a", "b", "c")
	for _, n := range []int{-1, -2, -3, -4, 4, 5, 6, 7, 8, 1 << 32, -1 << 32, math.MaxInt64, math.MinInt64} {
		kept(t, s, func() { shift(t, s, n, false) })
	}
	// What once was there is none that could go.
	shift(t, s, 2, true)
	kept(t, s, func() { shift(t, s, 2, false) })
	kept(t, s, func() { shift(t, s, -1, false) })
	shift(t, s, 1, true)
	kept(t, s, func() { shift(t, s, 1, false) })
	shift(t, s, 0, true)
	s.SetArgs("d", "e")
	args(t, s, "d", "e")
	shift(t, s, 2, true)
}

// P9.3: one goes behind the other, of many.
func TestShiftMany(t *testing.T) {
	l := numbered(1 << 12)
	s := with(l...)
	for i := range l {
		is(t, s, "1", l[i])
		is(t, s, "#", strconv.Itoa(len(l)-i))
		shift(t, s, 1, true)
	}
	args(t, s)
}

// P9.4: another Scope, that is the same.
func TestCloneSame(t *testing.T) {
	s := with("a", "", "c")
	set(t, s, "x", "v", true)
	set(t, s, "_y", "", true)
	s.SetStatus(130)
	s.SetLast(9)
	shift(t, s, 1, true)
	c := s.Clone()
	if c == s {
		t.Error("Clone is the scope itself")
	}
	if tells(c) != tells(s) {
		t.Errorf("the clone tells\n%s\nof\n%s", tells(c), tells(s))
	}
}

// changes are what may be done to a scope.
func changes() []func(*vars.Scope) {
	return []func(*vars.Scope){
		func(s *vars.Scope) { s.Set("x", "other") },
		func(s *vars.Scope) { s.Set("new", "other") },
		func(s *vars.Scope) { s.SetArgs("other", "one") },
		func(s *vars.Scope) { s.SetArgs() },
		func(s *vars.Scope) { s.Shift(1) },
		func(s *vars.Scope) { s.Shift(2) },
		func(s *vars.Scope) { s.SetStatus(77) },
		func(s *vars.Scope) { s.SetLast(88) },
	}
}

// P9.4: what is done to the one isn't done to the other one.
func TestCloneApart(t *testing.T) {
	for i, do := range changes() {
		s := with("a", "b")
		s.Set("x", "v")
		s.SetStatus(1)
		s.SetLast(2)
		c := s.Clone()
		before := tells(s)
		kept(t, s, func() { do(c) })
		if tells(c) == before {
			t.Errorf("change %d isn't one", i)
		}
		c = s.Clone()
		kept(t, c, func() { do(s) })
		kept(t, s, func() { *c = vars.Scope{} })
	}
	for _, do := range changes() {
		var s vars.Scope
		c := s.Clone()
		kept(t, &s, func() { do(c) })
		c = s.Clone()
		kept(t, c, func() { do(&s) })
	}
}

// P9.4: of clones of clones, too.
func TestCloneOfClone(t *testing.T) {
	s := with("a", "b")
	set(t, s, "x", "1", true)
	c := s.Clone()
	d := c.Clone()
	set(t, c, "x", "2", true)
	shift(t, c, 1, true)
	set(t, d, "x", "3", true)
	d.SetArgs("d")
	is(t, s, "x", "1")
	args(t, s, "a", "b")
	is(t, c, "x", "2")
	args(t, c, "b")
	is(t, d, "x", "3")
	args(t, d, "d")
}

// What is handed in may be written over behind the call, and isn't changed, spare room included.
func TestArgumentsNotKept(t *testing.T) {
	room := []string{"a", "b", "spare", "room"}
	s := &vars.Scope{}
	s.SetArgs(room[:2]...)
	room[0], room[1] = "z", "z"
	args(t, s, "a", "b")

	room = []string{"a", "b", "spare", "room"}
	s.SetArgs(room[:2]...)
	shift(t, s, 1, true)
	shift(t, s, 1, true)
	s.SetArgs("c", "d", "e")
	if !slices.Equal(room, []string{"a", "b", "spare", "room"}) {
		t.Errorf("the arguments are %q", room)
	}
}

// An answer is new memory, spare room too.
func TestAnswersNew(t *testing.T) {
	s := with("a", "b", "c")
	for _, name := range []string{"x", "y", "z"} {
		set(t, s, name, "v", true)
	}
	c := s.Clone()
	for range 2 {
		kept(t, s, func() {
			first, second := s.Args(), s.Args()
			overwrite(first)
			if !slices.Equal(second, s.Args()) {
				t.Errorf("two answers share memory: %q", second)
			}
			overwrite(s.Names())
			overwrite(c.Args())
			overwrite(c.Names())
		})
		shift(t, s, 1, true)
	}
	args(t, c, "a", "b", "c")
	names(t, c, "x", "y", "z")

	first, second := s.Names(), s.Names()
	overwrite(first)
	if !slices.Equal(second, s.Names()) {
		t.Errorf("two answers share memory: %q", second)
	}
}

// overwrite writes over a list, and its spare room.
func overwrite(l []string) {
	l = l[:cap(l)]
	for i := range l {
		l[i] = "over"
	}
}
