package lex_test

import (
	"fmt"
	"math"
	"slices"
	"strings"
	"testing"

	"deadfall/api"
	"deadfall/class"
	"deadfall/lex"
	"deadfall/word"
)

func lit(s string) api.Part { return api.Part{Kind: api.Lit, Text: s} }

func quo(s string) api.Part { return api.Part{Kind: api.Lit, Quoted: true, Text: s} }

func par(name, op string, of ...api.Part) api.Part {
	return api.Part{Kind: api.Param, Text: name, Op: op, Of: of}
}

func dpar(name, op string, of ...api.Part) api.Part {
	return api.Part{Kind: api.Param, Quoted: true, Text: name, Op: op, Of: of}
}

func aWord(at int, l ...api.Part) lex.Token { return lex.Token{Kind: lex.Word, At: at, Word: l} }

func aSign(at int, s string) lex.Token { return lex.Token{Kind: lex.Sign, At: at, Text: s} }

func aLine(at int) lex.Token { return lex.Token{Kind: lex.Line, At: at} }

func anEnd(at int) lex.Token { return lex.Token{Kind: lex.End, At: at} }

func aBad(at int, err api.Errno) lex.Token { return lex.Token{Kind: lex.Bad, At: at, Err: err} }

func same(a, b lex.Token) bool {
	return a.Kind == b.Kind && a.At == b.At && a.Text == b.Text && a.Err == b.Err && word.Same(a.Word, b.Word)
}

// brief is a value as a text that a reader can take in.
func brief(x any) string { return fmt.Sprintf("%.300s", fmt.Sprint(x)) }

// checkScan tells of tokens that aren't those.
func checkScan(t *testing.T, s string, want ...lex.Token) {
	t.Helper()
	if got := lex.Scan(s); !slices.EqualFunc(got, want, same) {
		t.Errorf("Scan(%.60q) is %s, not %s", s, brief(got), brief(want))
	}
}

// checkNext tells of a token, or of a place behind it, that isn't that.
func checkNext(t *testing.T, s string, at int, want lex.Token, to int) {
	t.Helper()
	if got, behind := lex.Next(s, at); !same(got, want) || behind != to {
		t.Errorf("Next(%.60q, %d) is %s, %d, not %s, %d", s, at, brief(got), behind, brief(want), to)
	}
}

// checkWord tells of a text that isn't that one word.
func checkWord(t *testing.T, s string, l ...api.Part) {
	t.Helper()
	checkNext(t, s, 0, aWord(0, l...), len(s))
	checkScan(t, s, aWord(0, l...), anEnd(len(s)))
}

// checkBad tells of a text in which that isn't the first thing that is wrong, or that isn't all that comes of its token.
func checkBad(t *testing.T, s string, at int, err api.Errno) {
	t.Helper()
	checkNext(t, s, 0, aBad(at, err), at)
	checkScan(t, s, aBad(at, err))
	checkScan(t, "x "+s, aWord(0, lit("x")), aBad(at+2, err))
}

// P4.1: the kinds, by their numbers.
func TestKinds(t *testing.T) {
	if got := []int{lex.Word, lex.Sign, lex.Line, lex.End, lex.Bad}; !slices.Equal(got, []int{1, 2, 3, 4, 5}) {
		t.Errorf("the kinds are %v", got)
	}
}

// P4.1
func TestPassedOver(t *testing.T) {
	for _, s := range []string{"", " ", "\t", " \t \t", "\\\n", "\\\n\\\n", " \\\n\t", strings.Repeat(" \\\n\t", 1000)} {
		n := len(s)
		checkScan(t, s, anEnd(n))
		checkNext(t, s, 0, anEnd(n), n)
		checkScan(t, s+"a"+s, aWord(n, lit("a")), anEnd(2*n+1))
		checkScan(t, s+";"+s+"\n", aSign(n, ";"), aLine(2*n+1), anEnd(2*n+2))
		checkScan(t, s+"<", aBad(n, api.ErrForm))
		for _, c := range []string{"#", "##", "#\\", "# a ; $ ' \" ` < \\", "#\xff\x00", "#" + strings.Repeat(" a", 1000)} {
			n := len(s + c)
			checkScan(t, s+c, anEnd(n))
			checkScan(t, s+c+"\n", aLine(n), anEnd(n+1))
			checkScan(t, s+c+"\na", aLine(n), aWord(n+1, lit("a")), anEnd(n+2))
		}
	}
	checkScan(t, "a#b #c #d\n#e\n", aWord(0, lit("a#b")), aLine(9), aLine(12), anEnd(13))
	checkScan(t, "a\\\n#b\\\n c", aWord(0, lit("a#b")), aWord(8, lit("c")), anEnd(9))
	checkScan(t, ";#a", aSign(0, ";"), anEnd(3))
	checkScan(t, "a\r\n\vb\f", aWord(0, lit("a\r")), aLine(2), aWord(3, lit("\vb\f")), anEnd(6))
}

// P4.1
func TestNext(t *testing.T) {
	s := " a\\\nb$x;; \\\n\n#c\n'd'|<"
	for at, want := range []struct {
		t  lex.Token
		to int
	}{
		{aWord(1, lit("ab"), par("x", "")), 7}, {aWord(1, lit("ab"), par("x", "")), 7},
		{aWord(4, lit("b"), par("x", "")), 7}, {aLine(3), 4},
		{aWord(4, lit("b"), par("x", "")), 7}, {aWord(5, par("x", "")), 7}, {aWord(6, lit("x")), 7},
		{aSign(7, ";;"), 9}, {aSign(8, ";"), 9},
		{aLine(12), 13}, {aLine(12), 13}, {aLine(11), 12}, {aLine(12), 13},
		{aLine(15), 16}, {aWord(14, lit("c")), 15}, {aLine(15), 16},
		{aWord(16, quo("d")), 19}, {aBad(18, 1), 18}, {aBad(18, 1), 18},
		{aSign(19, "|"), 20}, {aBad(20, 1), 20}, {anEnd(21), 21},
	} {
		checkNext(t, s, at, want.t, want.to)
	}
	checkScan(t, "a $b;", aWord(0, lit("a")), aWord(2, par("b", "")), aSign(4, ";"), anEnd(5))
}

// P1: of such places nothing is promised but that a call ends.
func TestNoPlaces(t *testing.T) {
	for _, s := range []string{"", "a", "$", "a b"} {
		for _, at := range []int{math.MinInt, -1, len(s) + 1, math.MaxInt} {
			lex.Next(s, at)
		}
	}
}

// P4.1
func TestSigns(t *testing.T) {
	signs := []string{"&&", "||", ";;", "&", "|", ";", "(", ")"}
	var all func(s string, n int)
	all = func(s string, n int) {
		var want []lex.Token
		for at := 0; at < len(s); {
			i := slices.IndexFunc(signs, func(x string) bool { return strings.HasPrefix(s[at:], x) })
			want = append(want, aSign(at, signs[i]))
			at += len(signs[i])
		}
		checkScan(t, s, append(want, anEnd(len(s)))...)
		for i := 0; i < 5 && n > 0; i++ {
			all(s+";&|()"[i:i+1], n-1)
		}
	}
	all("", 5)
	for _, x := range signs {
		checkScan(t, "a"+x+"b", aWord(0, lit("a")), aSign(1, x), aWord(1+len(x), lit("b")), anEnd(2+len(x)))
		checkScan(t, x+"<", aSign(0, x), aBad(len(x), api.ErrForm))
		checkBad(t, "<"+x, 0, api.ErrForm)
		checkBad(t, ">"+x, 0, api.ErrForm)
	}
	checkScan(t, "&\\\n& ; ;", aSign(0, "&"), aSign(3, "&"), aSign(5, ";"), aSign(7, ";"), anEnd(8))
	checkScan(t, "a>b", aWord(0, lit("a")), aBad(1, api.ErrForm))
	checkScan(t, "'a'<<", aWord(0, quo("a")), aBad(3, api.ErrForm))
}

// P4.1, P4.2: each byte alone, and between others.
func TestBytesOfWords(t *testing.T) {
	for i := range 256 {
		c, s := byte(i), string([]byte{byte(i)})
		if !class.Bare(c) {
			continue
		}
		checkWord(t, "a"+s+"a", lit("a"+s+"a"))
		checkWord(t, "$@"+s+"''", par("@", ""), lit(s), quo(""))
		if c != '#' {
			checkWord(t, s, lit(s))
			checkWord(t, s+s, lit(s+s))
		}
	}
	a, b := lit("a"), lit("b")
	checkScan(t, "a b", aWord(0, a), aWord(2, b), anEnd(3))
	checkScan(t, "a\tb", aWord(0, a), aWord(2, b), anEnd(3))
	checkScan(t, "a\nb", aWord(0, a), aLine(1), aWord(2, b), anEnd(3))
	checkScan(t, "\n\na", aLine(0), aLine(1), aWord(2, a), anEnd(3))
	checkWord(t, "{}!=[]*?~if", lit("{}!=[]*?~if"))
}
