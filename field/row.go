package field

import (
	"strings"

	"deadfall/class"
)

// row is fields that have ended, and one that may have begun.
type row struct {
	ended []string
	begun bool // an empty one may have begun, too: what it has doesn't tell
	text  strings.Builder
}

// grow: the field that has begun, or begins now, gets this, be it empty.
func (r *row) grow(s string) {
	r.begun = true
	r.text.WriteString(s)
}

// end: the field that has begun, if one has, is as it will be.
func (r *row) end() {
	if !r.begun {
		return
	}
	r.ended = append(r.ended, r.text.String())
	r.begun = false
	r.text.Reset()
}

// part: fields get this, but for its Breaks, which part them.
func (r *row) part(s string) {
	from := 0
	for i := range len(s) {
		if class.Break(s[i]) {
			r.some(s[from:i])
			r.end()
			from = i + 1
		}
	}
	r.some(s[from:])
}

// some: a field gets this, if there is a byte of it.
func (r *row) some(s string) {
	if s != "" {
		r.grow(s)
	}
}
