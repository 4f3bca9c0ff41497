package field_test

import (
	"slices"
	"strings"
	"testing"

	"deadfall/api"
	"deadfall/class"
	"deadfall/field"
)

// u is a piece that isn't Quoted, q one that is, cut one that parts fields.
func u(s string) api.Piece { return api.Piece{Text: s} }
func q(s string) api.Piece { return api.Piece{Text: s, Quoted: true} }

var cut = api.Piece{Cut: true}

func pieces(l ...api.Piece) []api.Piece { return l }

func fields(l ...string) []string { return l }

// one is a text of one byte.
func one(c int) string { return string([]byte{byte(c)}) }

// allBytes has each byte once.
func allBytes() string {
	var b strings.Builder
	for c := range 256 {
		b.WriteByte(byte(c))
	}
	return b.String()
}

func check(t *testing.T, l []api.Piece, want ...string) {
	t.Helper()
	if got := field.Split(l); !slices.Equal(got, want) {
		t.Errorf("Split(%.200q) is %.200q, not %.200q", told(l), got, want)
	}
}

func checkText(t *testing.T, l []api.Piece, want string) {
	t.Helper()
	if got := field.Join(l); got != want {
		t.Errorf("Join(%.200q) is %.200q, not %.200q", told(l), got, want)
	}
	if got := field.Bytes(l); got != len(want) {
		t.Errorf("Bytes(%.200q) is %d, not %d", told(l), got, len(want))
	}
}

// told is pieces as texts: U, Q or C, and what stands in them.
func told(l []api.Piece) []string {
	var all []string
	for _, p := range l {
		switch {
		case p.Cut:
			all = append(all, "C"+p.Text)
		case p.Quoted:
			all = append(all, "Q"+p.Text)
		default:
			all = append(all, "U"+p.Text)
		}
	}
	return all
}

// The chapter's examples.
func TestExamples(t *testing.T) {
	check(t, pieces(u("a b")), "a", "b")
	check(t, pieces(u("")))
	check(t, pieces(q("")), "")
}

// P10.1: a Break that isn't Quoted parts fields, however many of them there are, and wherever they stand.
func TestBreaks(t *testing.T) {
	for _, c := range []struct {
		text string
		want []string
	}{
		{"", nil},
		{" ", nil},
		{"\t", nil},
		{"\n", nil},
		{" \t\n \n\t ", nil},
		{"a", fields("a")},
		{"abc", fields("abc")},
		{" a", fields("a")},
		{"a ", fields("a")},
		{" \n\ta\t\n ", fields("a")},
		{"a\tb", fields("a", "b")},
		{"a\nb", fields("a", "b")},
		{"a   b", fields("a", "b")},
		{"a\t\n b\n\nc", fields("a", "b", "c")},
		{" a b c ", fields("a", "b", "c")},
		{"ab cd", fields("ab", "cd")},
		{"a a a", fields("a", "a", "a")},
		{"b a", fields("b", "a")},
		{"'a b' \"c\"", fields("'a", "b'", "\"c\"")},
		{"a\\ b", fields("a\\", "b")},
		{"$x `y` *", fields("$x", "`y`", "*")},
		{"a;b&c|d", fields("a;b&c|d")},
		{"\xff \x00 \xc3\xa9", fields("\xff", "\x00", "é")},
	} {
		check(t, pieces(u(c.text)), c.want...)
	}
}

// P10.1: which bytes part fields, of all 256; Quoted ones never do.
func TestEachByte(t *testing.T) {
	for c := range 256 {
		s := one(c)
		check(t, pieces(q(s)), s)
		check(t, pieces(q("a"+s+"b")), "a"+s+"b")
		check(t, pieces(q(s+s)), s+s)
		check(t, pieces(u("a"), q(s), u("b")), "a"+s+"b")
		check(t, pieces(u("a "), q(s), u(" b")), "a", s, "b")
		if class.Break(byte(c)) {
			check(t, pieces(u(s)))
			check(t, pieces(u("a"+s+"b")), "a", "b")
			check(t, pieces(u("a"), u(s), u("b")), "a", "b")
			check(t, pieces(q("a"), u(s), q("b")), "a", "b")
			check(t, pieces(u(s+s+"a"+s+s)), "a")
		} else {
			check(t, pieces(u(s)), s)
			check(t, pieces(u("a"+s+"b")), "a"+s+"b")
			check(t, pieces(u("a"), u(s), u("b")), "a"+s+"b")
			check(t, pieces(q("a"), u(s), q("b")), "a"+s+"b")
			check(t, pieces(u(s+" "+s)), s, s)
		}
	}
}

// P10.1: three bytes alone are Breaks; the rest of them all stand in fields.
func TestAllBytes(t *testing.T) {
	all := allBytes()
	check(t, pieces(q(all)), all)
	check(t, pieces(u(all)), all[:9], all[11:32], all[33:])
}

// P10.1: signs of more than one byte are no Breaks, nor is what others call blank.
func TestNoBreaks(t *testing.T) {
	for _, s := range []string{"\r", "\v", "\f", "\x00", "\x1c", "\x1f", "\x7f", "\x85", "\xa0", "\u00a0", "\u0085", "\u2003", "\u2028", "\u3000", "\u0120", "\u010a", "\ufeff", "\xc2", "\xe2\x80"} {
		check(t, pieces(u("a"+s+"b")), "a"+s+"b")
		check(t, pieces(u(s)), s)
		check(t, pieces(u(s), cut, u(s)), s, s)
	}
}

// P10.1: all pieces' bytes stand one behind the other, wherever a piece ends.
func TestPieces(t *testing.T) {
	for _, c := range []struct {
		l    []api.Piece
		want []string
	}{
		{nil, nil},
		{pieces(), nil},
		{pieces(u("a"), u("b")), fields("ab")},
		{pieces(u("a"), q("b")), fields("ab")},
		{pieces(q("a"), u("b")), fields("ab")},
		{pieces(q("a"), q("b")), fields("ab")},
		{pieces(u("a"), u(""), u("b")), fields("ab")},
		{pieces(u("a"), q(""), u("b")), fields("ab")},
		{pieces(u("a "), u("b")), fields("a", "b")},
		{pieces(u("a"), u(" b")), fields("a", "b")},
		{pieces(u("a "), u(" b")), fields("a", "b")},
		{pieces(u("a b"), u("c d")), fields("a", "bc", "d")},
		{pieces(u("a b"), q("c d"), u("e f")), fields("a", "bc de", "f")},
		{pieces(q("a b"), q("c d")), fields("a bc d")},
		{pieces(q("a "), u(" "), q(" b")), fields("a ", " b")},
		{pieces(q(" "), u("a")), fields(" a")},
		{pieces(u("a"), q(" ")), fields("a ")},
		{pieces(u(" "), q(" "), u(" ")), fields(" ")},
		{pieces(q("\n"), u("\n"), q("\t")), fields("\n", "\t")},
		{pieces(u("\xc3"), u("\xa9")), fields("é")},
		{pieces(u("\xc3 \xa9")), fields("\xc3", "\xa9")},
		{pieces(u("a"), u(" "), u(" "), u(""), u("b"), u(" ")), fields("a", "b")},
	} {
		check(t, c.l, c.want...)
	}
}

// P10.1: an empty Quoted piece makes a field where no byte does; an empty piece that isn't Quoted makes none.
func TestEmpty(t *testing.T) {
	for _, c := range []struct {
		l    []api.Piece
		want []string
	}{
		{pieces(u("")), nil},
		{pieces(u(""), u("")), nil},
		{pieces(u(""), u(" "), u("")), nil},
		{pieces(u(""), cut, u("")), nil},
		{pieces(q("")), fields("")},
		{pieces(q(""), q("")), fields("")},
		{pieces(q(""), u(""), q("")), fields("")},
		{pieces(u(""), q("")), fields("")},
		{pieces(q(""), u(" ")), fields("")},
		{pieces(u(" "), q("")), fields("")},
		{pieces(u("  "), q(""), u("  ")), fields("")},
		{pieces(q(""), u(" "), q("")), fields("", "")},
		{pieces(q(""), u(" \n"), u(" "), q(""), u("\t"), q("")), fields("", "", "")},
		{pieces(q(""), u("a")), fields("a")},
		{pieces(u("a"), q("")), fields("a")},
		{pieces(u("a "), q("")), fields("a", "")},
		{pieces(q(""), u(" a")), fields("", "a")},
		{pieces(u("a "), q(""), u(" b")), fields("a", "", "b")},
		{pieces(u("a "), q(""), u("b")), fields("a", "b")},
		{pieces(u("a"), q(""), u(" b")), fields("a", "b")},
		{pieces(q(""), u("a b"), q("")), fields("a", "b")},
		{pieces(q("a"), u(" "), q(""), u(" ")), fields("a", "")},
	} {
		check(t, c.l, c.want...)
	}
}

// P10.1: a Cut parts fields; what stands between two of them is a field just if there is a byte, or a Quoted piece.
func TestCuts(t *testing.T) {
	for _, c := range []struct {
		l    []api.Piece
		want []string
	}{
		{pieces(cut), nil},
		{pieces(cut, cut, cut), nil},
		{pieces(u("a"), cut), fields("a")},
		{pieces(cut, u("a")), fields("a")},
		{pieces(u("a"), cut, u("b")), fields("a", "b")},
		{pieces(q("a"), cut, q("b")), fields("a", "b")},
		{pieces(q("a b"), cut, q("c")), fields("a b", "c")},
		{pieces(u("a b"), cut, u("c d")), fields("a", "b", "c", "d")},
		{pieces(u("x"), q("a b"), cut, q("c"), u("y")), fields("xa b", "cy")},
		{pieces(u("a"), cut, cut, u("b")), fields("a", "b")},
		{pieces(u("a"), cut, u(""), cut, u("b")), fields("a", "b")},
		{pieces(u("a"), cut, q(""), cut, u("b")), fields("a", "", "b")},
		{pieces(u("a"), cut, u(" "), cut, u("b")), fields("a", "b")},
		{pieces(u("a"), cut, q(" "), cut, u("b")), fields("a", " ", "b")},
		{pieces(u("a "), cut, u(" b")), fields("a", "b")},
		{pieces(u("a "), cut, q(" b")), fields("a", " b")},
		{pieces(q("")), fields("")},
		{pieces(q(""), cut), fields("")},
		{pieces(cut, q("")), fields("")},
		{pieces(q(""), cut, q("")), fields("", "")},
		{pieces(q(""), cut, u("")), fields("")},
		{pieces(q(""), cut, q(""), cut, q("")), fields("", "", "")},
		{pieces(q(""), cut, u(" "), q(""), u(" "), cut, q("")), fields("", "", "")},
		{pieces(cut, u(" "), cut, u("\n"), cut), nil},
	} {
		check(t, c.l, c.want...)
	}
}

// P10.1, P10.2: whatever else a Cut has is of no matter.
func TestCutAlone(t *testing.T) {
	for _, text := range []string{"", "a", " ", "a b", "\n", "\xff", strings.Repeat("a", 1<<16)} {
		for _, c := range []api.Piece{{Cut: true, Text: text}, {Cut: true, Text: text, Quoted: true}} {
			check(t, pieces(c))
			check(t, pieces(c, c))
			check(t, pieces(u("x"), c), "x")
			check(t, pieces(c, q("")), "")
			check(t, pieces(u("x"), c, q("y"), c, c, u("z")), "x", "y", "z")
			checkText(t, pieces(c), " ")
			checkText(t, pieces(u("x"), c, q("y"), c, c), "x y  ")
		}
	}
}

// P10.2
func TestJoin(t *testing.T) {
	for _, c := range []struct {
		l    []api.Piece
		want string
	}{
		{nil, ""},
		{pieces(), ""},
		{pieces(u("")), ""},
		{pieces(q("")), ""},
		{pieces(cut), " "},
		{pieces(cut, cut), "  "},
		{pieces(u("a")), "a"},
		{pieces(q("a")), "a"},
		{pieces(u("a"), u("b")), "ab"},
		{pieces(u("a"), q("b"), u("c")), "abc"},
		{pieces(u("b"), u("a")), "ba"},
		{pieces(u("a"), cut, u("b")), "a b"},
		{pieces(q("a b"), cut, q("c")), "a b c"},
		{pieces(u(" a  b\t"), q("\n c ")), " a  b\t\n c "},
		{pieces(u("a "), cut, u(" b")), "a   b"},
		{pieces(cut, u("a"), cut), " a "},
		{pieces(q(""), cut, q("")), " "},
		{pieces(u(""), cut, cut, u("x")), "  x"},
		{pieces(u("\xff"), q("\x00"), u("\xc3"), u("\xa9")), "\xff\x00é"},
		{pieces(u("'\"\\$`")), "'\"\\$`"},
		{pieces(u(allBytes()), cut, q(allBytes())), allBytes() + " " + allBytes()},
	} {
		checkText(t, c.l, c.want)
	}
	for c := range 256 {
		checkText(t, pieces(u(one(c))), one(c))
		checkText(t, pieces(q(one(c)), cut, u(one(c))), one(c)+" "+one(c))
	}
}

// Rules: what is handed in is not changed, spare room included, and not kept.
func TestUnchanged(t *testing.T) {
	room := pieces(u("a b"), api.Piece{Text: "x", Cut: true}, q("c d"), u(" e"), q("spare"), cut)
	before := slices.Clone(room)
	l := room[:4]
	got, text, bytes := field.Split(l), field.Join(l), field.Bytes(l)
	if !slices.Equal(room, before) {
		t.Errorf("the pieces are %+v now", room)
	}
	clear(room)
	if !slices.Equal(got, fields("a", "b", "c d", "e")) || text != "a b c d e" || bytes != len(text) {
		t.Errorf("written over behind the calls: %q, %q, %d", got, text, bytes)
	}
}

// Rules: an answer is new memory, spare room too.
func TestNewMemory(t *testing.T) {
	for n := range 20 {
		l := pieces(u(strings.Repeat("a ", n)))
		want := slices.Repeat(fields("a"), n)
		first := field.Split(l)
		for i := range first[:cap(first)] {
			first[:cap(first)][i] = "written"
		}
		second := field.Split(l)
		if !slices.Equal(second, want) {
			t.Errorf("behind what was written into another answer: %q", second)
		}
		third := field.Split(l)
		clear(third[:cap(third)])
		if !slices.Equal(second, want) {
			t.Errorf("an answer is %q, for what was written into another", second)
		}
	}
}

// P1: long texts, and many pieces, end, and are what short ones are.
func TestLong(t *testing.T) {
	const n = 1 << 18
	long := strings.Repeat("a", n)
	check(t, pieces(u(long)), long)
	check(t, pieces(q(long), u(long), q(long)), long+long+long)
	check(t, pieces(u(strings.Repeat(" ", n))))
	check(t, pieces(q(strings.Repeat(" ", n))), strings.Repeat(" ", n))
	check(t, pieces(u(strings.Repeat("a ", n))), slices.Repeat(fields("a"), n)...)
	check(t, slices.Repeat(pieces(u("a")), n), long)
	check(t, slices.Repeat(pieces(q("a"), u("")), n), long)
	check(t, slices.Repeat(pieces(cut), n))
	check(t, slices.Repeat(pieces(q("")), n), "")
	check(t, slices.Repeat(pieces(q(""), cut), n), slices.Repeat(fields(""), n)...)
	check(t, slices.Repeat(pieces(u("a"), q(" "), u(" b")), n), append(append(fields("a "), slices.Repeat(fields("ba "), n-1)...), "b")...)

	checkText(t, pieces(u(long), cut, q(long)), long+" "+long)
	checkText(t, slices.Repeat(pieces(u("a"), cut), n), strings.Repeat("a ", n))
	checkText(t, slices.Repeat(pieces(cut), n), strings.Repeat(" ", n))
}
