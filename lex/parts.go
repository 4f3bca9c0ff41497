package lex

import "deadfall/api"

// parts come one behind the other; texts side by side that are of one kind are one. A text is kept as bytes till it ends, so that a long one isn't copied at each of them.
type parts struct {
	list   []api.Part
	bytes  []byte
	open   bool
	quoted bool
}

// text goes on with a text.
func (l *parts) text(s string, quoted bool) {
	l.begin(quoted)
	l.bytes = append(l.bytes, s...)
}

// put goes on with a text of one byte.
func (l *parts) put(c byte, quoted bool) {
	l.begin(quoted)
	l.bytes = append(l.bytes, c)
}

// begin begins a text, if none of its kind has begun.
func (l *parts) begin(quoted bool) {
	if l.open && l.quoted != quoted {
		l.end()
	}
	l.open, l.quoted = true, quoted
}

// end ends the text that has begun.
func (l *parts) end() {
	if l.open {
		l.list = append(l.list, api.Part{Kind: api.Lit, Quoted: l.quoted, Text: string(l.bytes)})
	}
	l.open, l.bytes = false, l.bytes[:0]
}

// add goes on with a parameter.
func (l *parts) add(p api.Part) {
	l.end()
	l.list = append(l.list, p)
}

// join goes on with parts that are right by themselves.
func (l *parts) join(more []api.Part) {
	for _, p := range more {
		if p.Kind == api.Lit {
			l.text(p.Text, p.Quoted)
		} else {
			l.add(p)
		}
	}
}

// all are the parts.
func (l *parts) all() []api.Part {
	l.end()
	return l.list
}
