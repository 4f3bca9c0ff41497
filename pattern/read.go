package pattern

import "deadfall/api"

// sign is a byte of a pattern.
type sign struct {
	c      byte
	quoted bool
}

// is: is it that byte, and not quoted?
func (b sign) is(c byte) bool {
	return b.c == c && !b.quoted
}

// The kinds of meanings.
const (
	itself = iota
	anyByte
	anyBytes
	inSet
	notInSet
)

// meaning is what a byte of a pattern, or a set, means: by its kind a byte, or those of a set.
type meaning struct {
	kind int
	c    byte
	of   *set
}

// means: does it mean that byte?
func (m meaning) means(c byte) bool {
	switch m.kind {
	case itself:
		return m.c == c
	case inSet:
		return m.of[c]
	case notInSet:
		return !m.of[c]
	}
	return m.kind == anyByte
}

// set has a truth for each byte.
type set [256]bool

// add puts all bytes from the first to the last one in.
func (s *set) add(first, last byte) {
	// A number greater than a byte, so that it ends behind 255.
	for c := int(first); c <= int(last); c++ {
		s[c] = true
	}
}

// read: what a pattern means, one meaning behind the other.
func read(p []api.Piece) []meaning {
	b := signs(p)
	closing := lastClosing(b)
	out := make([]meaning, 0, len(b))
	for at := 0; at < len(b); {
		first := firstMember(b, at)
		if b[at].is('[') && first < closing {
			m, behind := readSet(b, at, first)
			out = append(out, m)
			at = behind
			continue
		}
		out = append(out, single(b[at]))
		at++
	}
	return out
}

// signs: the pieces' bytes, one behind the other.
func signs(p []api.Piece) []sign {
	var out []sign
	for _, piece := range p {
		if piece.Cut {
			continue
		}
		for i := range len(piece.Text) {
			out = append(out, sign{c: piece.Text[i], quoted: piece.Quoted})
		}
	}
	return out
}

// lastClosing: where the last `]` stands that may end a set, or -1. It is looked for once, so that many `[` that begin no set don't each go through all that follows.
func lastClosing(b []sign) int {
	for at := len(b) - 1; at >= 0; at-- {
		if b[at].is(']') {
			return at
		}
	}
	return -1
}

// firstMember: where the first member of a set may stand that begins at that place.
func firstMember(b []sign, at int) int {
	if at+1 < len(b) && b[at+1].is('!') {
		return at + 2
	}
	return at + 1
}

// single: what a byte means that begins no set.
func single(b sign) meaning {
	switch {
	case b.is('?'):
		return meaning{kind: anyByte}
	case b.is('*'):
		return meaning{kind: anyBytes}
	}
	return meaning{kind: itself, c: b.c}
}

// readSet: the set that begins at that place, and the place behind it; one ends it, behind its first member.
func readSet(b []sign, at, first int) (meaning, int) {
	m := meaning{kind: inSet, of: new(set)}
	if first == at+2 {
		m.kind = notInSet
	}
	end := first + 1
	for !b[end].is(']') {
		end++
	}
	for at = first; at < end; {
		// What stands ahead of the end is no `]` that ends the set.
		if at+2 < end && b[at+1].is('-') {
			m.of.add(b[at].c, b[at+2].c)
			at += 3
			continue
		}
		m.of.add(b[at].c, b[at].c)
		at++
	}
	return m, end + 1
}
