package builtin_test

import (
	"slices"
	"strconv"
	"strings"
	"testing"

	"deadfall/api"
	"deadfall/builtin"
	"deadfall/kern"
	"deadfall/state"
)

// names has each signal's name at its number, and that of the end at 0, as the document of layer 1 has them.
var names = strings.Fields("EXIT HUP INT QUIT ILL TRAP ABRT BUS FPE KILL USR1 SEGV USR2 PIPE ALRM TERM STKFLT CHLD CONT STOP TSTP TTIN TTOU URG XCPU XFSZ VTALRM PROF WINCH IO PWR SYS")

// noConds are texts that are no conditions, or Fixed ones.
var noConds = []string{"", "none", "int", "SIGINT", "exit", "Exit", "00", "02", "015", "32", "99", "-1", "-", "--", "+2", " 2", "INT ", "2x", "\xff", "KILL", "9", "STOP", "19"}

// noPrograms are actions that are none.
var noPrograms = []string{"if", "a &&", "'", "(", ")", "fi", "a; }", "${", strings.Repeat("(", 201) + "a" + strings.Repeat(")", 201)}

// fixed: nobody can catch it.
func fixed(s int) bool {
	return s == kill || s == stop
}

// traps is the builtin with these operands.
func traps(operands ...string) []string {
	return append([]string{"trap"}, operands...)
}

// sets does by hand what trap does with an action.
func sets(action string, conds ...int) func(place) {
	return func(x place) {
		for _, c := range conds {
			x.s.Traps.Set(c, action)
			if c != quit {
				x.k.Put(x.pid, c, map[bool]int{true: ignored, false: caught}[action == ""])
			}
		}
	}
}

// resets does by hand what trap does without one.
func resets(conds ...int) func(place) {
	return func(x place) {
		for _, c := range conds {
			x.s.Traps.Reset(c)
			if c != quit {
				x.k.Put(x.pid, c, byDefault)
			}
		}
	}
}

// P17.6: without operands it writes what is set.
func TestTrapLines(t *testing.T) {
	fresh().keeps(t, ends(0), "trap")
	fresh().keeps(t, ends(0), "trap", "--")
	want := builtin.Effect{Kind: plain, Text: "trap -- 'echo t' EXIT\ntrap -- '' HUP\ntrap -- 'echo t' INT\ntrap -- 'echo t' TERM\n"}
	full().keeps(t, want, "trap")
	full().keeps(t, want, "trap", "--")
	x := fresh()
	x.does(t, ends(0), "trap", "echo 'a b'\n", "SYS")
	x.keeps(t, builtin.Effect{Kind: plain, Text: "trap -- 'echo '\\''a b'\\''\n' SYS\n"}, "trap")
}

// P17.6: each condition, by its name and by its number, gets an action, is ignored, and is reset, in each of the ways that say so.
func TestTrapConditions(t *testing.T) {
	for c, name := range names {
		for _, cond := range []string{name, strconv.Itoa(c)} {
			if fixed(c) {
				continue
			}
			for _, action := range []string{"echo a", "", "-e", "+", "1000000000", "-1", "INT", "EXIT", "0x1", " ", "#", "--x"} {
				changes(t, full, ends(0), sets(action, c), traps(action, cond)...)
				changes(t, full, ends(0), sets(action, c), traps("--", action, cond)...)
				changes(t, family, ends(0), sets(action, c), traps(action, cond, cond)...)
			}
			changes(t, full, ends(0), sets("--", c), traps("--", "--", cond)...)
			changes(t, full, ends(0), resets(c), traps("-", cond)...)
			changes(t, full, ends(0), resets(c), traps("--", "-", cond)...)
			changes(t, full, ends(0), resets(c, hup), traps("1", cond)...)
			changes(t, full, ends(0), resets(c, hup), traps("--", "1", cond, "HUP")...)
		}
		if !fixed(c) {
			changes(t, full, ends(0), resets(c), traps(strconv.Itoa(c))...)
		}
	}
}

// P17.6: several conditions in one; what is pending stays where it is caught still, and goes else.
func TestTrapSeveral(t *testing.T) {
	changes(t, full, ends(0), sets("x; y", intr, term, 0, usr1), traps("x; y", "INT", "15", "EXIT", "10")...)
	changes(t, full, ends(0), sets("", hup, quit, chld), traps("", "HUP", "QUIT", "CHLD")...)
	changes(t, full, ends(0), resets(hup, intr, term, 0), traps("-", "1", "INT", "TERM", "0")...)
	changes(t, full, ends(0), resets(0, intr), traps("0", "INT")...)
	for action, pending := range map[string]api.Set{"a": 1 << term, "": 0, "-": 0} {
		x := full()
		x.does(t, ends(0), "trap", action, "TERM")
		if got := x.k.Pending(1); got != pending {
			t.Errorf("%q: pending is %b", action, got)
		}
	}
	x := full()
	x.does(t, ends(0), "trap", "15")
	if x.k.Pending(1) != 0 || x.k.How(1, term) != byDefault || x.s.Traps.How(term) != byDefault {
		t.Error("TERM isn't reset")
	}
}

// P17.6: 1, and nothing, where there are no conditions, or one is none, or Fixed, wherever it stands, and whatever the action is.
func TestTrapFailed(t *testing.T) {
	x := full()
	for _, action := range append([]string{"echo a", "", "-", "--", "INT", "+"}, noPrograms...) {
		if action != "--" {
			x.keeps(t, ends(1), traps(action)...)
		}
		x.keeps(t, ends(1), traps("--", action)...)
		for _, no := range noConds {
			x.keeps(t, ends(1), traps("--", action, no)...)
			x.keeps(t, ends(1), traps("--", action, "INT", no)...)
			x.keeps(t, ends(1), traps("--", action, no, "INT")...)
			x.keeps(t, ends(1), traps("--", action, "0", "TERM", no, "QUIT", "HUP")...)
		}
	}
}

// P17.6: a number ahead makes all operands conditions, be it of none.
func TestTrapNumbers(t *testing.T) {
	x := full()
	for _, first := range []string{"2", "0", "1"} {
		for _, no := range append([]string{"echo a"}, noConds...) {
			x.keeps(t, ends(1), traps(first, no)...)
			x.keeps(t, ends(1), traps(first, "INT", no)...)
		}
	}
	for _, first := range []string{"9", "19", "32", "00", "02", "015", "99", "999999999", "000000000"} {
		x.keeps(t, ends(1), traps(first)...)
		x.keeps(t, ends(1), traps(first, "INT")...)
		x.keeps(t, ends(1), traps("--", first, "INT", "2")...)
	}
}

// P17.6: 2, and nothing, where the action is no program, of a signal that is ignored on entry, too.
func TestTrapNoProgram(t *testing.T) {
	x := full()
	for _, action := range noPrograms {
		for _, conds := range []string{"INT", "0", "QUIT", "QUIT INT", "TERM 2 HUP EXIT", "INT INT"} {
			x.keeps(t, ends(2), traps(append([]string{action}, cut(conds)...)...)...)
			x.keeps(t, ends(2), traps(append([]string{"--", action}, cut(conds)...)...)...)
		}
	}
}

// P17.6: of a signal that is ignored on entry nothing is put, whatever the process does with it; of others the process does what is said, and nobody else does.
func TestTrapEntry(t *testing.T) {
	made := func() place {
		x := place{state.New(1<<quit|1<<kill, api.Node{}), kern.New(1<<usr1 | 1<<winch), 2}
		x.k.Fork(1)
		x.k.Fork(2)
		x.k.Put(2, quit, caught)
		x.k.Send(2, quit)
		return x
	}
	for _, words := range [][]string{traps("a", "QUIT"), traps("", "3"), traps("-", "QUIT"), traps("3"), traps("3", "QUIT")} {
		made().keeps(t, ends(0), words...)
	}
	changes(t, made, ends(0), func(x place) {
		x.s.Traps.Set(usr1, "a")
		x.k.Put(2, usr1, caught)
	}, traps("a", "QUIT", "USR1")...)
	changes(t, made, ends(0), func(x place) { x.k.Put(2, winch, byDefault) }, traps("-", "WINCH", "3")...)
}

// An action that is long, and conditions that are many, are worked out all the same.
func TestTrapMany(t *testing.T) {
	action := strings.Repeat("a;", 1<<14)
	var conds []string
	for range 2000 {
		conds = append(conds, "INT", "15", "EXIT")
	}
	changes(t, full, ends(0), sets(action, intr, term, 0), traps(append([]string{action}, conds...)...)...)
	full().keeps(t, ends(1), traps(append(append([]string{action}, conds...), "KILL")...)...)
}

// sends does by hand what kill does.
func sends(s int, pids ...int) func(place) {
	return func(x place) {
		for _, pid := range pids {
			x.k.Send(pid, s)
		}
	}
}

// kills is the builtin with these operands.
func kills(operands ...string) []string {
	return append([]string{"kill"}, operands...)
}

// P17.7: each signal, by its name and by its number, in each of the ways that name it; TERM, where none does.
func TestKillSignals(t *testing.T) {
	for s, name := range names {
		for _, text := range []string{name, strconv.Itoa(s)} {
			for _, words := range [][]string{kills("-s", text, "3"), kills("-"+text, "3"), kills("-s", text, "--", "3"), kills("-"+text, "--", "3")} {
				if s == 0 {
					full().keeps(t, ends(2), words...)
				} else {
					changes(t, full, ends(0), sends(s, 3), words...)
				}
			}
			if s > 0 {
				changes(t, full, ends(0), sends(s, 1), kills("-s", text, "1")...)
			}
		}
	}
	for _, words := range [][]string{kills("3"), kills("--", "3"), kills("003"), kills("--", "000000003")} {
		changes(t, full, ends(0), sends(term, 3), words...)
	}
}

// P17.7: 2, and nothing, where no signal has that name, or no operands are left.
func TestKillWrong(t *testing.T) {
	x := full()
	for _, no := range []string{"", "none", "int", "SIGINT", "EXIT", "0", "00", "02", "32", "-2", "--", "-INT", "sINT", " 2", "INT ", "\xff", "-s"} {
		x.keeps(t, ends(2), kills("-s", no, "3")...)
		x.keeps(t, ends(2), kills("-s", no, "--", "3")...)
		x.keeps(t, ends(2), kills("-s", no)...)
		if no != "" && no != "-" && no != "-s" {
			x.keeps(t, ends(2), kills("-"+no, "3")...)
			x.keeps(t, ends(2), kills("-"+no)...)
		}
	}
	for _, row := range []string{"kill", "kill --", "kill -s", "kill -s INT", "kill -s INT --", "kill -INT", "kill -2", "kill -2 --", "kill -x --", "kill -sINT 3", "kill -sINT INT 3", "kill -sx 3 3", "kill -s2 2 3", "kill -SIGINT 3", "kill --INT 3", "kill --- 3", "kill -0 3", "kill -e 3"} {
		x.keeps(t, ends(2), cut(row)...)
	}
}

// P17.7: of each operand, in order; 1, if one is no number, or no live process's.
func TestKillOperands(t *testing.T) {
	for _, r := range []struct {
		row    string
		status int
		sent   func(place)
	}{
		{"kill 3 5", 0, sends(term, 3, 5)}, {"kill 5 3", 0, sends(term, 5, 3)}, {"kill 3 4", 0, sends(term, 3, 4)}, {"kill 3 3", 1, sends(term, 3)},
		{"kill -9 3 9 5", 1, sends(kill, 3, 5)}, {"kill -9 x 3", 1, sends(kill, 3)}, {"kill -9 3 x", 1, sends(kill, 3)}, {"kill -9 3  5", 1, sends(kill, 3, 5)},
		{"kill 2", 1, sends(term)}, {"kill 0", 1, sends(term)}, {"kill 6", 1, sends(term)}, {"kill 999999999", 1, sends(term)}, {"kill 1000000003", 1, sends(term)}, {"kill 0000000003", 1, sends(term)},
		{"kill -", 1, sends(term)}, {"kill - 3", 1, sends(term, 3)}, {"kill -- -3", 1, sends(term)}, {"kill -- -- 3", 1, sends(term, 3)}, {"kill -- -INT 3", 1, sends(term, 3)}, {"kill -- -s INT 3", 1, sends(term, 3)},
		{"kill -INT -9 3", 1, sends(intr, 3)}, {"kill -s INT -s TERM 3", 1, sends(intr, 3)}, {"kill -INT -- -- 3", 1, sends(intr, 3)}, {"kill -INT 3 --", 1, sends(intr, 3)}, {"kill 3 -INT", 1, sends(term, 3)}, {"kill INT 3", 1, sends(term, 3)}, {"kill s 3", 1, sends(term, 3)},
		{"kill -s INT 1 1", 0, sends(intr, 1)}, {"kill -TERM 1 3 1", 0, sends(term, 1, 3, 1)}, {"kill -HUP 1 5", 0, sends(hup, 1, 5)}, {"kill -QUIT 1 3", 0, sends(quit, 1, 3)}, {"kill -CHLD 1 3 4", 0, sends(chld, 1, 3, 4)},
	} {
		changes(t, full, ends(r.status), r.sent, cut(r.row)...)
	}
	x := full()
	for _, operand := range notNumbers {
		x.keeps(t, ends(1), kills("--", "0", operand)...)
	}
	x.keeps(t, ends(1), kills("", "")...)
}

// P17.7: as long as the process is live itself: it may kill itself, and what is behind that is of no matter.
func TestKillItself(t *testing.T) {
	for _, r := range []struct {
		row    string
		status int
		sent   func(place)
	}{
		{"kill -9 1", 0, sends(kill, 1)}, {"kill -9 1 3", 0, sends(kill, 1)}, {"kill -9 1 x", 0, sends(kill, 1)}, {"kill -9 1 1", 0, sends(kill, 1)}, {"kill -9 1 77 5 --", 0, sends(kill, 1)},
		{"kill -9 x 1 3", 1, sends(kill, 1)}, {"kill -9 77 1 x", 1, sends(kill, 1)}, {"kill -9 3 1 5", 0, sends(kill, 3, 1)}, {"kill -9 5 2 1 3", 1, sends(kill, 5, 1)},
		{"kill -s USR1 1 3", 0, sends(usr1, 1)}, {"kill -STOP 1 3", 0, sends(stop, 1)}, {"kill -WINCH 1 3", 0, sends(winch, 1, 3)},
	} {
		changes(t, full, ends(r.status), r.sent, cut(r.row)...)
	}
	third := func() place { x := full(); x.pid = 3; return x }
	changes(t, third, ends(0), sends(kill, 1, 3), cut("kill -9 1 3 5 x")...)
	changes(t, third, ends(0), sends(term, 5, 4, 3), cut("kill 5 4 3 1 x")...)
}

// P17.8: the pids that the operands are, as they stand, be they whose they may.
func TestWaitPids(t *testing.T) {
	x := full()
	for row, pids := range map[string][]int{"3": {3}, "5 3": {5, 3}, "3 3 3": {3, 3, 3}, "2": {2}, "1 4 99 0": {1, 4, 99, 0}, "003 000000000 999999999": {3, 0, 999999999}, "0": {0}} {
		x.keeps(t, builtin.Effect{Kind: waits, Pids: pids}, append([]string{"wait"}, cut(row)...)...)
	}
	for _, no := range notNumbers {
		x.keeps(t, ends(2), "wait", no)
		x.keeps(t, ends(2), "wait", "3", no)
		x.keeps(t, ends(2), "wait", no, "3")
		x.keeps(t, ends(2), "wait", "3", "5", no, "4")
	}
}

// P17.8: without operands it is all children, live ones and remains, of this process alone.
func TestWaitAll(t *testing.T) {
	for pid, pids := range map[int][]int{1: {2, 3, 5}, 3: {4}, 4: nil, 5: nil} {
		x := full()
		x.pid = pid
		x.keeps(t, builtin.Effect{Kind: waits, All: true, Pids: pids}, "wait")
	}
	x := full()
	x.k.Reap(1, 2)
	x.k.Exit(3, 0)
	x.keeps(t, builtin.Effect{Kind: waits, All: true, Pids: []int{3, 5}}, "wait")
	fresh().keeps(t, builtin.Effect{Kind: waits, All: true}, "wait")
}

// An answer is new memory: what is written into it, and its spare room, is seen nowhere.
func TestWaitIsNew(t *testing.T) {
	x := full()
	for _, words := range [][]string{{"wait"}, {"wait", "2", "3", "5"}} {
		a, b := builtin.Do(x.s, x.k, 1, words...), builtin.Do(x.s, x.k, 1, words...)
		for i := range a.Pids[:cap(a.Pids)] {
			a.Pids[:cap(a.Pids)][i] = 99
		}
		if !slices.Equal(b.Pids, []int{2, 3, 5}) {
			t.Errorf("%q: the other ones are %v", words, b.Pids)
		}
		b.Pids = nil
		x.keeps(t, builtin.Effect{Kind: waits, All: len(words) == 1, Pids: []int{2, 3, 5}}, words...)
	}
}

// The document's example.
func TestExample(t *testing.T) {
	x := fresh()
	x.does(t, ends(0), "kill", "-s", "INT", "1")
	if x.k.Live(1) {
		t.Error("it is live")
	}
	if got := x.k.Ends(); !slices.Equal(got, []api.End{{Pid: 1, Status: 130}}) {
		t.Errorf("it ended so: %v", got)
	}
}
