package sig_test

import (
	"math"
	"slices"
	"strconv"
	"strings"
	"testing"

	"deadfall/api"
	"deadfall/sig"
)

// known is the chapter's row of names, as it stands there.
const known = "1 HUP, 2 INT, 3 QUIT, 4 ILL, 5 TRAP, 6 ABRT, 7 BUS, 8 FPE, 9 KILL, 10 USR1, 11 SEGV, 12 USR2, 13 PIPE, 14 ALRM, 15 TERM, 16 STKFLT, 17 CHLD, 18 CONT, 19 STOP, 20 TSTP, 21 TTIN, 22 TTOU, 23 URG, 24 XCPU, 25 XFSZ, 26 VTALRM, 27 PROF, 28 WINCH, 29 IO, 30 PWR, 31 SYS"

// strange are numbers that are no signals, among them such as a shift, or a conversion to fewer bits, takes for one.
var strange = []int{0, -1, -2, -31, -32, 32, 33, 34, 63, 64, 65, 66, 255, 256, 258, 1<<32 + 2, 1<<33 - 1, math.MaxInt, math.MinInt, math.MinInt + 2}

// sets are sets at the edges: with and without bit 0, of one signal, of all, of none.
var sets = []api.Set{0, 1, 1 << 1, 1<<1 | 1, 1 << 31, 1<<31 | 1, 1<<31 | 1<<1, 0x55555555, 0xAAAAAAAA, math.MaxUint32 - 1, math.MaxUint32}

// table is known, by numbers.
func table(t *testing.T) map[int]string {
	m := map[int]string{}
	for _, row := range strings.Split(known, ", ") {
		digits, name, _ := strings.Cut(row, " ")
		s, err := strconv.Atoi(digits)
		if err != nil {
			t.Fatal(err)
		}
		m[s] = name
	}
	if len(m) != 31 {
		t.Fatal(len(m))
	}
	return m
}

// in tells by the set's value alone whether a signal is in it.
func in(x api.Set, s int) bool {
	return uint64(x)/uint64(math.Pow(2, float64(s)))%2 == 1
}

// P1.1
func TestIsAndName(t *testing.T) {
	for s, name := range table(t) {
		if !sig.Is(s) {
			t.Errorf("Is(%d) is false", s)
		}
		if got := sig.Name(s); got != name {
			t.Errorf("Name(%d) is %q, not %q", s, got, name)
		}
	}
	for _, s := range strange {
		if sig.Is(s) {
			t.Errorf("Is(%d) is true", s)
		}
		if got := sig.Name(s); got != "" {
			t.Errorf("Name(%d) is %q", s, got)
		}
	}
}

// P1.1
func TestMildAndFixed(t *testing.T) {
	mild := []string{"CHLD", "CONT", "URG", "WINCH"}
	fixed := []string{"KILL", "STOP"}
	for s, name := range table(t) {
		if got := sig.Mild(s); got != slices.Contains(mild, name) {
			t.Errorf("Mild(%d), %s, is %v", s, name, got)
		}
		if got := sig.Fixed(s); got != slices.Contains(fixed, name) {
			t.Errorf("Fixed(%d), %s, is %v", s, name, got)
		}
	}
	for _, s := range append([]int{17 + 32, 9 + 32, 9 + 256, 1<<32 + 19, -9, -17}, strange...) {
		if sig.Mild(s) || sig.Fixed(s) {
			t.Errorf("%d is Mild, or Fixed", s)
		}
	}
}

// P1.2
func TestNumberAndCond(t *testing.T) {
	for s, name := range table(t) {
		for _, text := range []string{name, strconv.Itoa(s)} {
			if got, ok := sig.Number(text); got != s || !ok {
				t.Errorf("Number(%q) is %d, %v", text, got, ok)
			}
			if got, ok := sig.Cond(text); got != s || !ok {
				t.Errorf("Cond(%q) is %d, %v", text, got, ok)
			}
		}
	}
	for _, text := range []string{"0", "EXIT"} {
		if got, ok := sig.Number(text); got != 0 || ok {
			t.Errorf("Number(%q) is %d, %v", text, got, ok)
		}
		if got, ok := sig.Cond(text); got != 0 || !ok {
			t.Errorf("Cond(%q) is %d, %v", text, got, ok)
		}
	}
}

// P1.2
func TestNumberAndCondOfWrongTexts(t *testing.T) {
	wrong := []string{
		"", " ", "\x00", "\xff", "SIGINT", "SIG", "int", "Int", "INT ", " INT", "INT\n", "INT\x00", "IN", "INTINT", "HUP INT",
		"00", "02", "002", "010", "+2", "-2", "-0", "+0", " 2", "2 ", "2\n", "2.", "2.0", "0x2", "1e1", "1_0", "3a", "٢",
		"32", "33", "64", "100", "256", "258", "4294967298", "18446744073709551618", "99999999999999999999999999", "-9223372036854775808",
		"exit", "Exit", "EXIT ", " EXIT", "SIGEXIT", "EXI", "ERR", "DEBUG", "CLD", "POLL", "IOT", "RTMIN", "KILL9",
		strings.Repeat("1", 100000), strings.Repeat("INT", 100000),
	}
	for _, text := range wrong {
		if got, ok := sig.Number(text); got != 0 || ok {
			t.Errorf("Number(%.40q) is %d, %v", text, got, ok)
		}
		if got, ok := sig.Cond(text); got != 0 || ok {
			t.Errorf("Cond(%.40q) is %d, %v", text, got, ok)
		}
	}
}

// P1.3
func TestOf(t *testing.T) {
	if got := sig.Of(); got != 0 {
		t.Errorf("Of() is %b", got)
	}
	var all []int
	for s := 1; s <= 31; s++ {
		all = append(all, s)
		if got := sig.Of(s); got != api.Set(math.Pow(2, float64(s))) {
			t.Errorf("Of(%d) is %b", s, got)
		}
	}
	if got := sig.Of(all...); got != math.MaxUint32-1 {
		t.Errorf("Of all is %b", got)
	}
	if got := sig.Of(strange...); got != 0 {
		t.Errorf("Of what is no signal is %b", got)
	}
	l := []int{31, 0, 2, -1, 31, 32, 2, 34}
	kept := slices.Clone(l)
	if got := sig.Of(l...); got != 1<<31|1<<2 {
		t.Errorf("Of(%v) is %b", l, got)
	}
	if !slices.Equal(l, kept) {
		t.Errorf("Of has written into its list: %v", l)
	}
}

// P1.3
func TestHasWithAndWithout(t *testing.T) {
	for _, x := range sets {
		for s := 1; s <= 31; s++ {
			if got := sig.Has(x, s); got != in(x, s) {
				t.Errorf("Has(%b, %d) is %v", x, s, got)
			}
			with, without := sig.With(x, s), sig.Without(x, s)
			if !in(with, s) || in(without, s) {
				t.Errorf("With, Without (%b, %d) are %b, %b", x, s, with, without)
			}
			for o := range 32 {
				if o != s && (in(with, o) != in(x, o) || in(without, o) != in(x, o)) {
					t.Errorf("With, Without (%b, %d) are %b, %b, at %d", x, s, with, without, o)
				}
			}
		}
		for _, s := range strange {
			if sig.Has(x, s) {
				t.Errorf("Has(%b, %d) is true", x, s)
			}
			if with, without := sig.With(x, s), sig.Without(x, s); with != x || without != x {
				t.Errorf("With, Without (%b, %d) are %b, %b", x, s, with, without)
			}
		}
	}
}

// P1.3
func TestLeastAndList(t *testing.T) {
	for _, x := range sets {
		var want []int
		for s := 1; s <= 31; s++ {
			if in(x, s) {
				want = append(want, s)
			}
		}
		if got := sig.List(x); !slices.Equal(got, want) {
			t.Errorf("List(%b) is %v, not %v", x, got, want)
		}
		least := 0
		if len(want) > 0 {
			least = want[0]
		}
		if got := sig.Least(x); got != least {
			t.Errorf("Least(%b) is %d, not %d", x, got, least)
		}
	}
	for s := 1; s <= 31; s++ {
		x := sig.Of(s, 31)
		if got := sig.Least(x); got != s {
			t.Errorf("Least(%b) is %d, not %d", x, got, s)
		}
	}
}

// P2, for List: who writes into an answer, its spare room included, changes no later one.
func TestListIsNew(t *testing.T) {
	x := sig.Of(3, 1, 2)
	l := sig.List(x)
	for i := range l[:cap(l)] {
		l[:cap(l)][i] = 99
	}
	if got := sig.List(x); !slices.Equal(got, []int{1, 2, 3}) {
		t.Errorf("List is %v", got)
	}
}
