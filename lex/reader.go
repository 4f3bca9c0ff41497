package lex

import (
	"strings"

	"deadfall/api"
	"deadfall/class"
)

// A reader has come to a place of a text.
type reader struct {
	s  string
	at int
}

// A fault is what is wrong, and where; the reading of a token is broken off with it.
type fault struct {
	at  int
	err api.Errno
}

// wrong breaks off.
func wrong(at int) {
	panic(fault{at, api.ErrForm})
}

// token reads the token that begins here.
func (r *reader) token() (t Token) {
	defer func() {
		broken := recover()
		if f, ok := broken.(fault); ok {
			t, r.at = Token{Kind: Bad, At: f.at, Err: f.err}, f.at
		} else if broken != nil {
			// It is no fault of the text, so that no token may hide it.
			panic(broken)
		}
	}()
	t.At = r.at
	switch {
	case r.ended():
		t.Kind = End
	case r.s[r.at] == '\n':
		t.Kind = Line
		r.at++
	case class.Sign(r.s[r.at]):
		t.Kind, t.Text = Sign, sign(r.s[r.at:])
		if t.Text == "" {
			wrong(r.at)
		}
		r.at += len(t.Text)
	default:
		t.Kind, t.Word = Word, r.bare(0)
	}
	return t
}

func (r *reader) ended() bool {
	return r.at == len(r.s)
}

// sees: is this the byte that comes next?
func (r *reader) sees(c byte) bool {
	return !r.ended() && r.s[r.at] == c
}

// bare reads what isn't in double marks: a word of a command, or, within as many parameters as told, what is up to the bracket.
func (r *reader) bare(within int) []api.Part {
	var l parts
	for !r.ended() {
		switch c := r.s[r.at]; {
		case c == '\'':
			r.single(&l)
		case c == '"':
			l.join(r.double(within))
		case c == '\\':
			r.escape(&l)
		case c == '`':
			wrong(r.at)
		case c == '$':
			l.add(r.param(false, within+1))
		case within == 0 && !class.Bare(c), within > 0 && c == '}':
			return l.all()
		default:
			l.put(c, false)
			r.at++
		}
	}
	return l.all()
}

// single reads a text between single marks.
func (r *reader) single(l *parts) {
	from := r.at + 1
	n := strings.IndexByte(r.s[from:], '\'')
	if n < 0 {
		wrong(r.at)
	}
	l.text(r.s[from:from+n], true)
	r.at = from + n + 1
}

// escape reads a byte that a mark of its own quotes, or a line feed that goes with it.
func (r *reader) escape(l *parts) {
	if r.at+1 == len(r.s) {
		wrong(r.at)
	}
	if c := r.s[r.at+1]; c != '\n' {
		l.put(c, true)
	}
	r.at += 2
}

// double reads what stands in double marks, and the marks.
func (r *reader) double(within int) []api.Part {
	mark := r.at
	r.at++
	l := r.marked('"', within)
	if r.ended() {
		wrong(mark)
	}
	r.at++
	if len(l) == 0 {
		return []api.Part{{Kind: api.Lit, Quoted: true}}
	}
	return l
}

// marked reads what is in double marks up to an end: the mark, or, in a parameter, the bracket.
func (r *reader) marked(end byte, within int) []api.Part {
	var l parts
	for !r.ended() {
		switch c := r.s[r.at]; {
		case c == end:
			return l.all()
		case c == '"' || c == '`':
			wrong(r.at)
		case c == '$':
			l.add(r.param(true, within+1))
		case c == '\\':
			r.slash(end, &l)
		default:
			l.put(c, true)
			r.at++
		}
	}
	return l.all()
}

// slash reads what a byte 92 makes of itself and of what is behind it, in double marks.
func (r *reader) slash(end byte, l *parts) {
	r.at++
	switch {
	case r.sees('\n'):
		r.at++
	case r.sees('"') || r.sees('$') || r.sees('\\') || r.sees('`') || r.sees(end):
		l.put(r.s[r.at], true)
		r.at++
	default:
		l.put('\\', true)
	}
}

// param reads a parameter that stands so deep, from its $ on.
func (r *reader) param(quoted bool, depth int) api.Part {
	from := r.at
	if depth > api.MaxDepth {
		panic(fault{from, api.ErrDeep})
	}
	r.at++
	p := api.Part{Kind: api.Param, Quoted: quoted}
	if r.sees('{') {
		r.at++
		r.bracket(&p, from, depth)
		return p
	}
	p.Text = r.take(nameLength(r.s[r.at:], 1))
	if p.Text == "" {
		wrong(from)
	}
	return p
}

// bracket reads a parameter's name, and what is done with it, up to the end of the bracket. What is wrong with all of it is so where the parameter begins.
func (r *reader) bracket(p *api.Part, from, depth int) {
	p.Text = r.take(nameLength(r.s[r.at:], len(r.s)))
	p.Op = r.take(opLength(r.s[r.at:]))
	if !class.Param(p.Text) || strings.HasSuffix(p.Op, "=") && !class.Name(p.Text) {
		wrong(from)
	}
	if p.Op != "" {
		p.Of = r.of(p.Quoted, depth)
	}
	if !r.sees('}') {
		wrong(from)
	}
	r.at++
}

// of reads what is within a parameter that stands so deep.
func (r *reader) of(quoted bool, depth int) []api.Part {
	if quoted {
		return r.marked('}', depth)
	}
	return r.bare(depth)
}

// take reads so many bytes.
func (r *reader) take(n int) string {
	r.at += n
	return r.s[r.at-n : r.at]
}

// nameLength is how long the parameter's name is that s begins with, of so many digits at most; 0, if there is none.
func nameLength(s string, digits int) int {
	switch {
	case s == "":
		return 0
	case class.Letter(s[0]):
		return run(s, func(c byte) bool { return class.Letter(c) || class.Digit(c) })
	case class.Digit(s[0]):
		return min(run(s, class.Digit), digits)
	case class.Param(s[:1]):
		return 1
	}
	return 0
}

// run is how many bytes, from the first one on, are such.
func run(s string, such func(c byte) bool) int {
	for i := range len(s) {
		if !such(s[i]) {
			return i
		}
	}
	return len(s)
}

// opLength is how long the parameter's operator is that s begins with; 0, if there is none.
func opLength(s string) int {
	n := 0
	if strings.HasPrefix(s, ":") {
		n = 1
	}
	if n == len(s) {
		return 0
	}
	switch s[n] {
	case '-', '=', '+', '?':
		return n + 1
	}
	return 0
}
