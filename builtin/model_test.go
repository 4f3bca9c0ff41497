package builtin_test

import (
	"math/rand/v2"
	"regexp"
	"slices"
	"strconv"
	"strings"
	"testing"

	"deadfall/api"
	"deadfall/builtin"
	"deadfall/frame"
	"deadfall/kern"
	"deadfall/parse"
	"deadfall/state"
)

// This is a second reading of the chapter: what is handed in is read as one line, by patterns, and what is to be done is done by the layers below.

// mark stands behind each operand of a line; no operand of these tests has it.
const mark = "\x01"

var (
	digits   = regexp.MustCompile(`^[0-9]{1,9}$`)
	options  = regexp.MustCompile(`^(?:[-+]e\x01)*`)
	killName = regexp.MustCompile(`^(?:-s\x01([^\x01]*)(?:\x01|$)|-([^-\x01][^\x01]*|-[^\x01]+)\x01)?(?:--\x01)?`)
)

// line is operands as one text.
func line(l []string) string {
	var b strings.Builder
	for _, x := range l {
		b.WriteString(x + mark)
	}
	return b.String()
}

// split is the operands of a line.
func split(s string) []string {
	l := strings.Split(s, mark)
	return l[:len(l)-1]
}

// value is a number's; -1 of none.
func value(s string) int {
	if !digits.MatchString(s) {
		return -1
	}
	n, _ := strconv.Atoi(s)
	return n
}

// condition is the number of one's name; -1 of none.
func condition(s string) int {
	for i, name := range names {
		if s == name || s == strconv.Itoa(i) {
			return i
		}
	}
	return -1
}

// byte256 is the number from 0 to 255 from which n is a multiple of 256 away.
func byte256(n int) int {
	for n < 0 {
		n += 1 << 32
	}
	return n % 256
}

// read does it by the second reading.
func (x place) read(words []string) builtin.Effect {
	if len(words) == 0 {
		return builtin.Effect{}
	}
	l := words[1:]
	switch words[0] {
	case ":", "true":
		return ends(0)
	case "false":
		return ends(1)
	case "echo":
		return builtin.Effect{Kind: plain, Text: strings.ReplaceAll(strings.TrimSuffix(line(l), mark), mark, " ") + "\n"}
	case "shift", "exit", "return", "break", "continue":
		return x.readNumber(words[0], l)
	case "set":
		return x.readSet(line(l))
	case "trap":
		return x.readTrap(l)
	case "kill":
		return x.readKill(line(l))
	case "wait":
		return x.readWait(l)
	}
	return builtin.Effect{}
}

func (x place) readNumber(name string, l []string) builtin.Effect {
	n, most := -1, x.s.Stack.Loops()
	if len(l) == 1 {
		n = value(l[0])
	}
	if len(l) > 1 || len(l) == 1 && n < 0 || n == 0 && (name == "break" || name == "continue") {
		return misused()
	}
	status := x.s.Scope.Status()
	saved, inside := x.s.Stack.Saved()
	if inside && name == "exit" {
		status = saved
	}
	if len(l) == 1 {
		status = n
	}
	switch name {
	case "exit":
		return builtin.Effect{Kind: leave, Status: byte256(status)}
	case "return":
		y, ok := x.s.Stack.Return()
		if !ok {
			return ends(2)
		}
		x.s.Scope.SetArgs(y.Words...)
		return builtin.Effect{Kind: returned, Status: byte256(status), Free: y.Free}
	case "shift":
		args := x.s.Scope.Args()
		if len(l) == 0 {
			n = 1
		}
		if n > len(args) {
			return ends(1)
		}
		x.s.Scope.SetArgs(args[n:]...)
		return ends(0)
	}
	if len(l) == 0 {
		n = 1
	}
	if most > 0 && name == "break" {
		x.s.Stack.Break(min(n, most))
	} else if most > 0 {
		x.s.Stack.Continue(min(n, most))
	}
	return ends(0)
}

func (x place) readSet(s string) builtin.Effect {
	taken := options.FindString(s)
	if taken != "" {
		x.s.Strict = taken[len(taken)-3] == '-'
	}
	s = s[len(taken):]
	rest, all := strings.CutPrefix(s, "--"+mark)
	switch {
	case all:
		x.s.Scope.SetArgs(split(rest)...)
	case s == "":
	case s[0] == '-' || s[0] == '+':
		return misused()
	default:
		x.s.Scope.SetArgs(split(s)...)
	}
	return ends(0)
}

func (x place) readTrap(l []string) builtin.Effect {
	if len(l) > 0 && l[0] == "--" {
		l = l[1:]
	}
	if len(l) == 0 {
		var b strings.Builder
		for _, s := range x.s.Traps.Lines() {
			b.WriteString(s)
		}
		return builtin.Effect{Kind: plain, Text: b.String()}
	}
	action := "-"
	if value(l[0]) < 0 {
		action, l = l[0], l[1:]
	}
	bad := slices.ContainsFunc(l, func(s string) bool { return condition(s) < 0 || fixed(condition(s)) })
	if _, _, err := parse.Parse(action); bad || len(l) == 0 {
		return ends(1)
	} else if action != "-" && err != api.OK {
		return ends(2)
	}
	for _, s := range l {
		c := condition(s)
		if action == "-" {
			x.s.Traps.Reset(c)
		} else {
			x.s.Traps.Set(c, action)
		}
		if c > 0 && x.s.Traps.Entry()>>c%2 == 0 {
			x.k.Put(x.pid, c, x.s.Traps.How(c))
		}
	}
	return ends(0)
}

func (x place) readKill(s string) builtin.Effect {
	m := killName.FindStringSubmatch(s)
	name, rest := m[1]+m[2], s[len(m[0]):]
	if name == "" && !strings.HasPrefix(m[0], "-s") {
		name = "TERM"
	}
	if rest == "" || condition(name) < 1 {
		return ends(2)
	}
	bad := false
	for _, operand := range split(rest) {
		if !slices.Contains(x.k.Procs(), x.pid) {
			break
		}
		bad = value(operand) < 0 || !x.k.Send(value(operand), condition(name)) || bad
	}
	if bad {
		return ends(1)
	}
	return ends(0)
}

func (x place) readWait(l []string) builtin.Effect {
	e := builtin.Effect{Kind: waits, All: len(l) == 0}
	for _, s := range l {
		if value(s) < 0 {
			return ends(2)
		}
		e.Pids = append(e.Pids, value(s))
	}
	for pid := range 100 {
		if e.All && x.k.Child(x.pid, pid) {
			e.Pids = append(e.Pids, pid)
		}
	}
	return e
}

// pool are operands: options, numbers, signals, actions, and what is none of them.
var pool = []string{"-e", "+e", "--", "--", "-", "+", "-x", "+x", "", "-s", "-s", "0", "1", "1", "2", "3", "4", "5", "007", "256", "1000000000", "9", "32", "INT", "TERM", "EXIT", "HUP", "QUIT", "KILL", "USR1", "CHLD", "-INT", "-TERM", "-9", "-KILL", "-QUIT", "-none", "none", "SIGINT", "echo a", "a; b", "if", "x", " ", "\xff"}

// words are a builtin's name, as a rule, and operands, by chance.
func words(r *rand.Rand) []string {
	l := append(strings.Split(special+" "+others, " "), "trap", "kill", "kill", "set", "none", "")
	out := []string{l[r.IntN(len(l))]}
	for range r.IntN(5) {
		out = append(out, pool[r.IntN(len(pool))])
	}
	return out
}

// thrown is a place by chance.
func thrown(r *rand.Rand) place {
	entry := api.Set(r.Uint32() & r.Uint32() & r.Uint32())
	x := place{state.New(entry, api.Node{}), kern.New(entry), 1 + r.IntN(3)}
	for range 2 + r.IntN(4) {
		x.k.Fork(1 + r.IntN(x.k.Len()))
	}
	x.s.Scope.SetArgs([]string{"a", "b", "", "d"}[r.IntN(5):]...)
	x.s.Scope.SetStatus(r.IntN(600) - 200)
	for range r.IntN(4) {
		c, text := r.IntN(32), []string{"", "a", "echo b"}[r.IntN(3)]
		x.s.Traps.Set(c, text)
		x.k.Put(x.pid, c, r.IntN(3))
		x.k.Send(x.pid, []int{chld, winch, 18, 23}[r.IntN(4)])
	}
	for range r.IntN(8) {
		x.s.Stack.Push(item([]int{do, rest, cond, again, next, next, back, back, calm, over}[r.IntN(10)], r.IntN(30)))
	}
	return x
}

// P17.1 to P17.8: what is done by chance, one behind the other, in two places that are the same.
func TestThrown(t *testing.T) {
	for seed := range uint64(1500) {
		x, y := thrown(rand.New(rand.NewPCG(17, seed))), thrown(rand.New(rand.NewPCG(17, seed)))
		r := rand.New(rand.NewPCG(18, seed))
		for range 12 {
			if !x.k.Live(x.pid) {
				break
			}
			if r.IntN(4) == 0 {
				kind, i := []int{frame.Cond, frame.Next, frame.Back, frame.Calm}[r.IntN(4)], r.IntN(30)
				x.s.Stack.Push(item(kind, i))
				y.s.Stack.Push(item(kind, i))
			}
			l := words(r)
			x.does(t, y.read(l), l...)
			if got, want := x.tells(), y.tells(); got != want {
				t.Errorf("behind %q is told\n%s\nnot\n%s", l, got, want)
			}
			if t.Failed() {
				t.Fatalf("seed %d", seed)
			}
		}
	}
}
