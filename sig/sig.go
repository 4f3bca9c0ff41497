// Package sig is layer 1: see shared/doc/01-sig.md.
package sig

import (
	"strconv"

	"deadfall/api"
)

// The least and the greatest signal.
const (
	first = 1
	last  = 31
)

// The signals that are spoken of apart from the others.
const (
	kill  = 9
	chld  = 17
	cont  = 18
	stop  = 19
	urg   = 23
	winch = 28
)

// names has each signal's name at its number; nobody has the place 0.
var names = [last + 1]string{
	"",
	"HUP", "INT", "QUIT", "ILL", "TRAP", "ABRT", "BUS", "FPE",
	"KILL", "USR1", "SEGV", "USR2", "PIPE", "ALRM", "TERM", "STKFLT",
	"CHLD", "CONT", "STOP", "TSTP", "TTIN", "TTOU", "URG", "XCPU",
	"XFSZ", "VTALRM", "PROF", "WINCH", "IO", "PWR", "SYS",
}

// Is: is it a signal?
func Is(s int) bool {
	return first <= s && s <= last
}

// Name: a signal's name.
func Name(s int) string {
	if !Is(s) {
		return ""
	}
	return names[s]
}

// Number: a text's signal.
func Number(text string) (int, bool) {
	for s := first; s <= last; s++ {
		if text == names[s] || text == strconv.Itoa(s) {
			return s, true
		}
	}
	return 0, false
}

// Cond: a text's signal, or the end of a process.
func Cond(text string) (int, bool) {
	if text == "0" || text == "EXIT" {
		return 0, true
	}
	return Number(text)
}

// Mild: does nobody die of it?
func Mild(s int) bool {
	switch s {
	case chld, cont, urg, winch:
		return true
	}
	return false
}

// Fixed: can nobody catch it?
func Fixed(s int) bool {
	return s == kill || s == stop
}

// bit is the set of s alone. It is empty of what is no signal, so that nothing such gets into a set, or out of it, not even bit 0.
func bit(s int) api.Set {
	if !Is(s) {
		return 0
	}
	return api.Set(1) << uint(s)
}

// Of: signals as a set.
func Of(l ...int) api.Set {
	var x api.Set
	for _, s := range l {
		x |= bit(s)
	}
	return x
}

// Has: is a signal in a set?
func Has(x api.Set, s int) bool {
	return x&bit(s) != 0
}

// With: a set with a signal.
func With(x api.Set, s int) api.Set {
	return x | bit(s)
}

// Without: a set without a signal.
func Without(x api.Set, s int) api.Set {
	return x &^ bit(s)
}

// Least: a set's least signal.
func Least(x api.Set) int {
	for s := first; s <= last; s++ {
		if Has(x, s) {
			return s
		}
	}
	return 0
}

// List: a set's signals.
func List(x api.Set) []int {
	var l []int
	for s := first; s <= last; s++ {
		if Has(x, s) {
			l = append(l, s)
		}
	}
	return l
}
