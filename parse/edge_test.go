package parse_test

import (
	"cmp"
	"math/rand/v2"
	"reflect"
	"slices"
	"strings"
	"testing"

	"deadfall/api"
	"deadfall/parse"
	"deadfall/tree"
)

// P6.1: a Bad token is wrong at its place, by its Err, where nothing is wrong ahead of it.
func TestBad(t *testing.T) {
	deep := strings.Repeat("${x-", 200)
	for _, ahead := range []string{
		"", "a ", "\n", "a;", "a&", "a && ", "! ", "x=1 ", "{ ", "(", "(a) ", "{ a; } ", "f(", "f() ", "if ", "if a; then b; else ", "if a; then b; fi ", "while a; do ",
		"for ", "for i ", "for i;", "for i in ", "case ", "case a ", "case a in ", "case a in (", "case a in b|", "case a in b)",
	} {
		for _, s := range []string{"<", ">", ">b", "'", "'b", "\"b", "`", "$", "${}", "\\", "<'", "${x", "$(", "<\n}", "`)", "$ (", "${01} }"} {
			checkWrong(t, ahead+s, len(ahead), api.ErrForm)
		}
		checkWrong(t, ahead+"b'c", len(ahead)+1, api.ErrForm)
		checkWrong(t, ahead+"fi$", len(ahead)+2, api.ErrForm)
		checkWrong(t, ahead+"b${x-'", len(ahead)+5, api.ErrForm)
		checkWrong(t, ahead+deep+"$y", len(ahead+deep), api.ErrDeep)
		checkWrong(t, ahead+"b\""+deep+"$", len(ahead+deep)+2, api.ErrDeep)
	}
	checkAt(t, "~} 'b", "~then $", "a ~) <", "a; ~; '", "~&&'", "a &&~&&`", "(a) ~b $", "f() ~a <", "if ~fi '", "for ~1 $", "case a ~b '", "a ~<", "a~<b", "a b~>c", "a; b~<; c", "a && b; ~$")
	checkWrong(t, "} "+deep+"$y", 0, api.ErrForm)
	checkWrong(t, "a )"+deep+"$y", 2, api.ErrForm)
	var w api.Word
	for range 200 {
		w = par("x", "-", w...)
	}
	checkProgram(t, deep+strings.Repeat("}", 200), list(does(w)))
}

// An opening is what puts commands one deeper, what ends that, and where in it the compound begins.
type opening struct {
	s, end string
	at     int
}

func openings() []opening {
	return []opening{
		{"{ ", ";}", 0}, {"{ a;! ", "\n}", 0}, {"(", ")", 0}, {"( a &", "&)", 0}, {"if ", ";then a;fi", 0}, {"if a;then ", ";fi", 0}, {"if a;then b;else ", ";fi", 0}, {"if a;then b;else c||", ";fi", 0},
		{"while ", ";do a;done", 0}, {"while a;do ", ";done", 0}, {"until ", ";do a;done", 0}, {"until a;do ", ";done", 0}, {"for i do ", ";done", 0}, {"for i in a b;do ", ";done", 0},
		{"case a in b)", ";;esac", 0}, {"case a in (b|c);;d)", ";esac", 0}, {"f() { ", ";}", 4}, {"f(\\\n)\n(", ")", 6}, {"f()if a;then ", ";fi", 3}, {"a && (", ")||b", 5}, {"a;b&\n{ ", "; }", 5},
	}
}

// P6.1: how deep compounds stand, each alone, and one in another.
func TestDeep(t *testing.T) {
	for _, x := range openings() {
		ahead, behind := strings.Repeat(x.s, 200), strings.Repeat(x.end, 200)
		less, more := strings.Repeat(x.s, 199), strings.Repeat(x.end, 199)
		checkRead(t, ahead+"a"+behind)
		checkRead(t, ahead+"x=1 && b"+behind)
		checkAt(t, ahead+"~;", ahead+"a &&~", ahead+"~fi", ahead+"f(~{", ahead+"f() ~a", ahead+"f() ~g() (a)", ahead+"~'")
		checkWrong(t, ahead+"{ '", len(ahead), api.ErrDeep)
		checkWrong(t, ahead+"(<", len(ahead), api.ErrDeep)
		for _, y := range openings() {
			checkRead(t, less+y.s+"a"+y.end+more)
			checkWrong(t, ahead+y.s, len(ahead)+y.at, api.ErrDeep)
			checkWrong(t, ahead+y.s+"a"+y.end+behind, len(ahead)+y.at, api.ErrDeep)
			checkWrong(t, ahead+"a;"+y.s, len(ahead)+2+y.at, api.ErrDeep)
			checkWrong(t, less+y.s+"a"+y.end+";"+x.s+y.s, len(less+y.s+y.end+x.s)+2+y.at, api.ErrDeep)
		}
	}
}

// checkRead tells of a text that is no program.
func checkRead(t *testing.T, s string) {
	t.Helper()
	n, at, err := parse.Parse(s)
	if at != 0 || err != api.OK || !tree.Program(n) {
		t.Errorf("Parse(%.200q) is %s, %d, %d, though it is a program", s, brief(n), at, err)
	}
}

// P6.1: an elif is as deep as an if in the else of that ahead of it, from the word elif on.
func TestDeepElif(t *testing.T) {
	const first, other = "if a;then b;", "elif a;then b;"
	for _, around := range []int{0, 1, 100, 198} {
		ahead, behind := strings.Repeat("(", around), strings.Repeat(")", around)
		less := ahead + first + strings.Repeat(other, 198-around)
		checkRead(t, less+"else (c);fi"+behind)
		checkRead(t, less+"(c);fi"+behind)
		checkWrong(t, less+"elif (a);then b;fi"+behind, len(less)+5, api.ErrDeep)
		most := less + other
		checkRead(t, most+"fi"+behind)
		checkRead(t, most+"else c;fi"+behind)
		free := 200 - around
		checkRead(t, most+"fi;"+strings.Repeat("(", free)+"c"+strings.Repeat(")", free)+behind)
		checkWrong(t, most+"fi;"+strings.Repeat("(", free+1), len(most)+3+free, api.ErrDeep)
		checkWrong(t, most+"elif", len(most), api.ErrDeep)
		checkWrong(t, most+"elif '", len(most), api.ErrDeep)
		checkWrong(t, most+other+"fi"+behind, len(most), api.ErrDeep)
		checkWrong(t, most+"else (c);fi"+behind, len(most)+5, api.ErrDeep)
		checkWrong(t, most+"{ c;};fi"+behind, len(most), api.ErrDeep)
		checkWrong(t, most+"else elif", len(most)+5, api.ErrForm)
	}
}

// P1, P6.1: what is long, or would be deep without an end.
func TestLong(t *testing.T) {
	const much = 1 << 16
	chain := and(a, b)
	for range much - 2 {
		chain = or(chain, b)
	}
	checkProgram(t, "a&&b"+strings.Repeat("||\nb", much-2), list(chain))
	checkProgram(t, strings.Repeat("a;b&\n", much), api.Node{Kind: api.List, Kids: slices.Repeat([]api.Node{a, b}, much), Beside: slices.Repeat([]bool{false, true}, much)})
	checkProgram(t, strings.Repeat("\n#x", much), list())
	checkProgram(t, "b"+strings.Repeat(" a", much), list(does(append(plain("b"), slices.Repeat(plain("a"), much)...)...)))
	checkProgram(t, strings.Repeat("x=1 ", much), list(api.Node{Kind: api.Simple, Assigns: slices.Repeat(sets("x", lit("1")).Assigns, much)}))
	checkProgram(t, "for i in"+strings.Repeat(" a", much)+";do a;done", list(loop("i", true, slices.Repeat(plain("a"), much), a)))
	checkProgram(t, "case x in "+strings.Repeat("(a|b)c;;", much)+"esac", list(choose(lit("x"), slices.Repeat([]api.Case{entry(plain("a", "b"), list(c))}, much)...)))
	checkProgram(t, "case x in a"+strings.Repeat("|a", much)+")esac", list(choose(lit("x"), entry(slices.Repeat(plain("a"), much+1)))))
	checkProgram(t, strings.Repeat("f() (a);", much), api.Node{Kind: api.List, Kids: slices.Repeat([]api.Node{function("f", sub(a))}, much), Beside: make([]bool, much)})
	for _, x := range openings() {
		checkRead(t, strings.Repeat(x.s+"a"+x.end+"\n", 1000))
		checkWrong(t, strings.Repeat(x.s, much), 200*len(x.s)+x.at, api.ErrDeep)
	}
	checkWrong(t, strings.Repeat("! ", much), 2, api.ErrForm)
	checkWrong(t, strings.Repeat("f() ", much), 4, api.ErrForm)
	checkWrong(t, "if a;then b;"+strings.Repeat("elif a;then b;", much), 12+199*14, api.ErrDeep)
	checkWrong(t, strings.Repeat("a;", much)+"fi", 2*much, api.ErrForm)
}

// P1, P2, P6: any text is answered, in one way, and no way but the few.
func TestAnyText(t *testing.T) {
	chance := rand.New(rand.NewPCG(6, 5))
	check := func(s string) {
		n, at, err := parse.Parse(s)
		again, atAgain, errAgain := parse.Parse(s)
		action, ok := parse.Action(s)
		right := at >= 0 && at <= len(s) && (err == api.ErrForm || err == api.ErrDeep) && tree.Same(n, api.Node{})
		if err == api.OK {
			right = at == 0 && tree.Program(n)
		}
		if !right || at != atAgain || err != errAgain || !tree.Same(n, again) || ok != (err == api.OK) || !tree.Same(n, action) {
			t.Errorf("Parse(%q) is %s, %d, %d, and %s, %d, %d", s, brief(n), at, err, brief(again), atAgain, errAgain)
		}
	}
	for i := range 1 << 16 {
		check(string([]byte{byte(i >> 8), byte(i)}))
	}
	for range 50000 {
		s := make([]byte, chance.IntN(12))
		for i := range s {
			s[i] = byte(chance.IntN(256))
			if chance.IntN(2) == 0 {
				s[i] = "{}();&|!\n $'\"\\#=afx"[chance.IntN(19)]
			}
		}
		check(string(s))
		check("case a in " + string(s))
		check("for i " + string(s) + "do a; done")
	}
}

// lists are all lists of a value, with what room is spare.
func lists(v reflect.Value) []reflect.Value {
	var l []reflect.Value
	switch v.Kind() {
	case reflect.Slice:
		l = append(l, v.Slice(0, v.Cap()))
		for i := range v.Len() {
			l = append(l, lists(v.Index(i))...)
		}
	case reflect.Struct:
		for i := range v.NumField() {
			l = append(l, lists(v.Field(i))...)
		}
	}
	return l
}

// A room is memory that a list has.
type room struct{ from, to uintptr }

// rooms are those of all lists of nodes, in the order in which they stand.
func rooms(l ...api.Node) []room {
	var out []room
	for _, v := range lists(reflect.ValueOf(l))[1:] {
		if size := uintptr(v.Len()) * v.Type().Elem().Size(); size > 0 {
			out = append(out, room{v.Pointer(), v.Pointer() + size})
		}
	}
	slices.SortFunc(out, func(x, y room) int { return cmp.Compare(x.from, y.from) })
	return out
}

// P6.1: an answer is new memory: no two lists of it, nor of two answers, share any, spare room included.
func TestMemory(t *testing.T) {
	m := maker{rand.New(rand.NewPCG(6, 6))}
	texts := []string{"x=${y:-a\"$b\"} y='c'd a \"$@\" ${z}; (a|", "x=a'b'$c z= a b c; for i in a b c; do a; b; c; done & case a in (a|b|c) a; b; c;; d) ;; esac; if a; then b; elif c; then d; else a; fi; f() { a && b || ! c; }"}
	for range 200 {
		texts = append(texts, m.written(m.program(4)).text())
	}
	for _, s := range texts {
		n, _, err := parse.Parse(s)
		again, _, _ := parse.Parse(s)
		action, _ := parse.Action(s)
		l := rooms(n, again, action)
		for i := range l {
			if i > 0 && l[i-1].to > l[i].from {
				t.Fatalf("two lists of what Parse(%q) is share memory", s)
			}
		}
		for _, v := range lists(reflect.ValueOf(again)) {
			for i := range v.Len() {
				v.Index(i).SetZero()
			}
		}
		if last, _, _ := parse.Parse(s); err == api.OK && (!tree.Program(n) || !tree.Same(n, last) || !tree.Same(action, last)) {
			t.Fatalf("what is written into what Parse(%q) is stands in another answer", s)
		}
	}
}
