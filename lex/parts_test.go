package lex_test

import (
	"slices"
	"strconv"
	"strings"
	"testing"

	"deadfall/api"
	"deadfall/class"
	"deadfall/lex"
	"deadfall/word"
)

const every = 256

// oneByte is the text of just that byte.
func oneByte(i int) string { return string([]byte{byte(i)}) }

// P4.2
func TestSingleMarks(t *testing.T) {
	checkWord(t, "''", quo(""))
	checkWord(t, "'a b'c", quo("a b"), lit("c"))
	checkWord(t, "a'\\'b'\"'", lit("a"), quo("\\"), lit("b"), quo("\""))
	checkWord(t, "'\\\n#${x}`\"'", quo("\\\n#${x}`\""))
	for i := range every {
		if s := oneByte(i); s != "'" {
			checkWord(t, "'"+s+"'", quo(s))
			checkWord(t, "'a"+s+"'"+"b", quo("a"+s), lit("b"))
		}
	}
	checkWord(t, "'a\\'", quo("a\\"))
	for s, at := range map[string]int{"'": 0, "'a": 0, "a'": 1, "''a'": 3, "'a\\''": 4, "'a'\"'\"'": 6, "'\n\n": 0, "'`": 0} {
		checkBad(t, s, at, api.ErrForm)
	}
}

// P4.2
func TestSlashes(t *testing.T) {
	for i := range every {
		s := oneByte(i)
		if s == "\n" {
			continue
		}
		checkWord(t, "\\"+s, quo(s))
		checkWord(t, "a\\"+s+"a", lit("a"), quo(s), lit("a"))
		checkWord(t, "${x-a\\"+s+"a}", par("x", "-", lit("a"), quo(s), lit("a")))
	}
	checkWord(t, "a\\\nb", lit("ab"))
	checkWord(t, "a\\\n", lit("a"))
	checkWord(t, "'a'\\\n'b'\\\n\\\n", quo("ab"))
	checkWord(t, "${x-\\\n}\\\n$y", par("x", "-"), par("y", ""))
	checkWord(t, "\\\\\\\\n", quo("\\\\"), lit("n"))
	checkWord(t, "\\é", quo("\xc3"), lit("\xa9"))
	for s, at := range map[string]int{"\\": 0, "a\\": 1, "a\\\n\\": 3, "\\\\\\": 2, "${x-\\": 4, "''\\": 2, "${x-${y}\\": 8} {
		checkBad(t, s, at, api.ErrForm)
	}
}

// P4.2
func TestGraves(t *testing.T) {
	for s, at := range map[string]int{"`": 0, "a`b`": 1, "'`'`": 3, "\"`\"": 1, "\"a`": 2, "${x-`}": 4, "\"${x-`}\"": 5, "${x-\"`\"}": 5, "$x`": 2} {
		checkBad(t, s, at, api.ErrForm)
	}
	checkWord(t, "'`'\"\\`\"\\`", quo("```"))
}

// P4.2
func TestDollars(t *testing.T) {
	for i := range every {
		c, s := byte(i), oneByte(i)
		switch {
		case class.Letter(c):
			checkWord(t, "$"+s, par(s, ""))
			checkWord(t, "$"+s+"a_0Z9-", par(s+"a_0Z9", ""), lit("-"))
			checkWord(t, "\"$"+s+"9b \"", dpar(s+"9b", ""), quo(" "))
		case class.Digit(c) || strings.IndexByte("@*#?$!", c) >= 0:
			checkWord(t, "$"+s, par(s, ""))
			checkWord(t, "$"+s+"0a", par(s, ""), lit("0a"))
			checkWord(t, "\"$"+s+"0\"", dpar(s, ""), quo("0"))
			checkWord(t, "${x+$"+s+"0}", par("x", "+", par(s, ""), lit("0")))
		case c != '{':
			checkBad(t, "$"+s, 0, api.ErrForm)
			checkBad(t, "a$"+s+"a}\"", 1, api.ErrForm)
			checkBad(t, "\"$"+s+"a\"", 1, api.ErrForm)
			checkBad(t, "${x-$"+s+"}", 4, api.ErrForm)
			checkBad(t, "\"${x-$"+s+"}\"", 5, api.ErrForm)
		}
	}
	checkBad(t, "$", 0, api.ErrForm)
	checkBad(t, "a$x$", 3, api.ErrForm)
	checkBad(t, "\"$", 1, api.ErrForm)
	checkWord(t, "$x$y'$z'$_", par("x", ""), par("y", ""), quo("$z"), par("_", ""))
	checkWord(t, "$$$$$x$#", par("$", ""), par("$", ""), par("x", ""), par("#", ""))
	checkWord(t, "$x\\\ny$1\\\n2", par("x", ""), lit("y"), par("1", ""), lit("2"))
	checkScan(t, "$x;$y $z#", aWord(0, par("x", "")), aSign(2, ";"), aWord(3, par("y", "")), aWord(6, par("z", ""), lit("#")), anEnd(9))
}

// P4.3
func TestDoubleMarks(t *testing.T) {
	for i := range every {
		s := oneByte(i)
		switch s {
		case "\"", "$", "\\", "`":
			checkWord(t, "\"\\"+s+"\"", quo(s))
			checkWord(t, "\"a\\"+s+"\"b", quo("a"+s), lit("b"))
		case "\n":
			checkWord(t, "\"a\\\nb\"", quo("ab"))
			checkWord(t, "\"\n\"", quo("\n"))
		default:
			checkWord(t, "\"\\"+s+"\"", quo("\\"+s))
			checkWord(t, "\""+s+"\"", quo(s))
			checkWord(t, "a\" "+s+"#\"", lit("a"), quo(" "+s+"#"))
		}
	}
	checkWord(t, "\"\"", quo(""))
	checkWord(t, "\"\\\n\\\n\"", quo(""))
	checkWord(t, "a\"\"b", lit("a"), quo(""), lit("b"))
	checkWord(t, "\"$x\"", dpar("x", ""))
	checkWord(t, "\"\\\n$x\\\n\"", dpar("x", ""))
	checkWord(t, "\"$x\"\"\"", dpar("x", ""), quo(""))
	checkWord(t, "$x\"\"$y", par("x", ""), quo(""), par("y", ""))
	checkWord(t, "\"a${x}b$y'${z-c}'\"", quo("a"), dpar("x", ""), quo("b"), dpar("y", ""), quo("'"), dpar("z", "-", quo("c")), quo("'"))
	checkWord(t, "x\"$@\"y", lit("x"), dpar("@", ""), lit("y"))
	for s, at := range map[string]int{"\"": 0, "a\"b": 1, "\"\"\"": 2, "\"a\\\"": 0, "\"a\\": 0, "\"a\\\n": 0, "\"a'\"'": 4, "\"${x}": 0, "\"'$": 2, "\"a\n;": 0, "\"a$x": 0, "\"\\a`": 3, "${x-\"": 4, "${x-\"}": 4, "${x-\"\\": 4, "${x-\"$y}": 4} {
		checkBad(t, s, at, api.ErrForm)
	}
}

// P4.4
func TestNamesAndOps(t *testing.T) {
	ops := []string{"-", ":-", "=", ":=", "+", ":+", "?", ":?"}
	for _, name := range []string{"x", "_", "aZ_09", "if", "0", "1", "10", "999", "@", "*", "#", "?", "$", "!"} {
		checkWord(t, "${"+name+"}", par(name, ""))
		checkWord(t, "a\"${"+name+"}\"a", lit("a"), dpar(name, ""), lit("a"))
		for _, op := range ops {
			if s := "${" + name + op + "a'b'}"; !strings.HasSuffix(op, "=") || class.Name(name) {
				checkWord(t, s, par(name, op, lit("a"), quo("b")))
				checkWord(t, "\""+s+"\"", dpar(name, op, quo("a'b'")))
				checkWord(t, "${"+name+op+"}", par(name, op))
				checkWord(t, "\"${"+name+op+"}\"", dpar(name, op))
				checkWord(t, "${"+name+op+op+"}", par(name, op, lit(op)))
			} else {
				checkBad(t, s, 0, api.ErrForm)
				checkBad(t, "b\""+s+"\"", 2, api.ErrForm)
				checkBad(t, "${"+name+op+"$-", 0, api.ErrForm)
			}
		}
	}
	for _, name := range []string{"", "00", "01", "007", "1000", "1234", strings.Repeat("9", 100000), "-", ":", "=", "+", " x", "\\\nx", "'x'", "\"x\"", "$x", "{x", "é", "\x00", "`", "\n"} {
		for _, rest := range []string{"}", "-a}", ":=a}", "", "-"} {
			checkBad(t, "${"+name+rest, 0, api.ErrForm)
			checkBad(t, "a\"${"+name+rest+"\"", 2, api.ErrForm)
		}
	}
}

// P4.4: what comes behind a name, and is neither an operator nor the bracket.
func TestBehindNames(t *testing.T) {
	for i := range every {
		s := oneByte(i)
		for _, name := range []string{"x", "12", "@", "#", "$", "?"} {
			if c := byte(i); strings.IndexByte("}-+?=:", c) >= 0 || name == "x" && (class.Letter(c) || class.Digit(c)) || name == "12" && class.Digit(c) {
				continue
			}
			checkBad(t, "${"+name+s+"a}", 0, api.ErrForm)
			checkBad(t, "${"+name+":"+s+"a}", 0, api.ErrForm)
			checkBad(t, "a\"b${"+name+s+"-a}\"", 3, api.ErrForm)
		}
	}
	for _, s := range []string{"${x:}", "${x::-a}", "${x:", "${x", "${", "${x }", "${x%a}", "${x#a}", "${#x}", "${##}", "${!x}", "${x\\\n}", "${x\\\n-a}", "${x:\\\n-a}", "${x[1]}", "${x/a/b}", "${xé}"} {
		checkBad(t, s, 0, api.ErrForm)
		checkBad(t, "a'b'\""+s+"\"", 5, api.ErrForm)
	}
	checkWord(t, "${#-a}${#}${?}${??b}${$-$$}", par("#", "-", lit("a")), par("#", ""), par("?", ""), par("?", "?", lit("b")), par("$", "-", par("$", "")))
	checkWord(t, "${x-:-a}${x:--a}", par("x", "-", lit(":-a")), par("x", ":-", lit("-a")))
}

// P4.4: each byte in what belongs to a parameter that isn't Quoted.
func TestBytesInBrackets(t *testing.T) {
	for i := range every {
		switch s := oneByte(i); s {
		case "\"", "$", "'", "\\", "`", "}":
			checkWord(t, "${x-\\"+s+"'a'}", par("x", "-", quo(s+"a")))
		default:
			checkWord(t, "${x-"+s+"}", par("x", "-", lit(s)))
			checkWord(t, "a${x:-"+s+"b"+s+"}b", lit("a"), par("x", ":-", lit(s+"b"+s)), lit("b"))
			checkWord(t, "${x+${y="+s+"}}", par("x", "+", par("y", "=", lit(s))))
		}
	}
	checkWord(t, "${x:-a b;'c}'\"d}\"\\}}", par("x", ":-", lit("a b;"), quo("c}d}}")))
	checkWord(t, "${x- #a\n<&\t>{}}", par("x", "-", lit(" #a\n<&\t>{")), lit("}"))
	checkWord(t, "${x-#}", par("x", "-", lit("#")))
	checkWord(t, "${x-''}${x-\"\"}", par("x", "-", quo("")), par("x", "-", quo("")))
}

// P4.4: each byte in what belongs to a Quoted one.
func TestBytesInQuotedBrackets(t *testing.T) {
	for i := range every {
		s := oneByte(i)
		switch s {
		case "\"", "$", "\\", "`", "}":
			checkWord(t, "\"${x-\\"+s+"}\"", dpar("x", "-", quo(s)))
			checkWord(t, "${y+\"${x-a\\"+s+"}\"}", par("y", "+", dpar("x", "-", quo("a"+s))))
		case "\n":
			checkWord(t, "\"${x-\n\\\n}\"", dpar("x", "-", quo("\n")))
			checkWord(t, "\"${x-\\\n\\\n}\"", dpar("x", "-"))
		default:
			checkWord(t, "\"${x-"+s+"}\"", dpar("x", "-", quo(s)))
			checkWord(t, "\"${x-\\"+s+"}\"", dpar("x", "-", quo("\\"+s)))
		}
	}
	checkWord(t, "\"\\}${x-\\}}}\"", quo("\\}"), dpar("x", "-", quo("}")), quo("}"))
	checkWord(t, "\"${x-'a}'b\"", dpar("x", "-", quo("'a")), quo("'b"))
	checkWord(t, "\"${x-$y${z:+ a}b}\"", dpar("x", "-", dpar("y", ""), dpar("z", ":+", quo(" a")), quo("b")))
	for s, at := range map[string]int{"\"${x-\"\"}\"": 5, "\"${x-a\"b\"}\"": 6, "\"${x-${y-\"}}\"": 9, "\"${x-": 1, "\"${x-a": 1, "\"${x-\"": 5, "\"${x-\\}\"": 7, "\"${x-\\": 1, "\"${x-${y}\"": 9, "\"${x-a}": 0, "a\"b${x-$y": 3} {
		checkBad(t, s, at, api.ErrForm)
	}
}

// P4.4: of several things the first one is told, an open bracket where nothing else is wrong.
func TestFirstWrong(t *testing.T) {
	for s, at := range map[string]int{"${x-": 0, "${x-a": 0, "${x-$y": 0, "${x-'a'": 0, "a${x-\\}": 1, "${x-a ;\n": 0, "${x-${y-": 4, "${x-${y-}": 0, "${x-${y": 4, "${x-${y}": 0, "${x-`": 4, "${x-$-": 4, "${x-'": 4, "${x-\"a": 4, "${x-\"${y-": 5, "${x-\"${y-}": 4, "${x-\"${y-}\"": 0, "\"${x-$": 5, "${x-${1=a}": 4, "${1=${x-": 0, "${x-'a'`'": 7, "'a`": 0, "$x\"$-": 3, "\"a`$-\"": 2} {
		checkBad(t, s, at, api.ErrForm)
	}
	checkScan(t, "a; b'c' ${x-} d$ <", aWord(0, lit("a")), aSign(1, ";"), aWord(3, lit("b"), quo("c")), aWord(8, par("x", "-")), aBad(15, api.ErrForm))
}

// nested is the text of parameters within one another, so deep, and the last of them.
func nested(deep int, last string) string {
	return strings.Repeat("${x-", deep-1) + last + strings.Repeat("}", deep-1)
}

// P4.4
func TestDepth(t *testing.T) {
	for _, last := range []string{"$y", "${y}", "${y-a}", "$$", "$1"} {
		for _, deep := range []int{1, 2, 199, 200} {
			s := nested(deep, last)
			for _, s := range []string{s, s + s, "a" + s + "'b'" + s, "\"" + s + "\"" + s} {
				if l := lex.Scan(s); len(l) != 2 || l[0].Kind != lex.Word || !word.Right(l[0].Word) {
					t.Errorf("Scan of parameters %d deep, the last %q, is %s", deep, last, brief(l))
				}
			}
		}
	}
	for _, last := range []string{"$y", "${y}", "${y-a}", "$$", "${y", "${", "${01}", "$", "$-", "${y-`}", "$`", "${y-$", "${1=}"} {
		for _, deep := range []int{201, 202, 300, 1 << 16} {
			s, at := nested(deep, last), 4*200
			checkBad(t, s, at, api.ErrDeep)
			checkBad(t, "a"+s+"`", at+1, api.ErrDeep)
			checkBad(t, "\""+s+"\"", at+1, api.ErrDeep)
			checkBad(t, "\"b$c${d}"+s, at+8, api.ErrDeep)
			checkBad(t, strings.TrimRight(s, "}"), at, api.ErrDeep)
			checkBad(t, nested(101, "\""+nested(deep-100, last)+"\""), at+1, api.ErrDeep)
			checkBad(t, nested(200, "${x+`"+last+"}"), at, api.ErrForm)
		}
	}
	checkWord(t, strings.Repeat("$x", 500), slices.Repeat([]api.Part{par("x", "")}, 500)...)
	checkWord(t, "${x-"+strings.Repeat("$x", 500)+"}", par("x", "-", slices.Repeat([]api.Part{par("x", "")}, 500)...))
	for _, last := range []string{"\\$y", "'$y'", "\"\\$y\""} {
		if l := lex.Scan(nested(201, last)); len(l) != 2 || !word.Right(l[0].Word) {
			t.Errorf("Scan of a text %q 200 deep is %s", last, brief(l))
		}
	}
}

// P4.5
func TestTextsSideBySide(t *testing.T) {
	checkWord(t, "'a'\"b\"\\c\"\"''d\\\ne", quo("abc"), lit("de"))
	checkWord(t, "\"\"''\\\n\"\"", quo(""))
	checkWord(t, "a''''b", lit("a"), quo(""), lit("b"))
	checkWord(t, "'a'$x'b''c'", quo("a"), par("x", ""), quo("bc"))
	checkWord(t, "\"a\"\"$x\"\"b\"'c'", quo("a"), dpar("x", ""), quo("bc"))
	checkWord(t, "\"$x\"''", dpar("x", ""), quo(""))
	checkWord(t, "''\"$x\"''\"\"", quo(""), dpar("x", ""), quo(""))
	checkWord(t, "${x-''\"a\"b\\\nc\\d}", par("x", "-", quo("a"), lit("bc"), quo("d")))
	checkWord(t, "''#a", quo(""), lit("#a"))
	checkWord(t, "\\#a", quo("#"), lit("a"))
	checkWord(t, "$x#a", par("x", ""), lit("#a"))
	for _, n := range []int{1000, 1 << 20} {
		checkWord(t, strings.Repeat("\\a", n), quo(strings.Repeat("a", n)))
		checkWord(t, strings.Repeat("'a'\"b\"", n), quo(strings.Repeat("ab", n)))
		checkWord(t, "\"${x-"+strings.Repeat("\\}a", n)+"}\"", dpar("x", "-", quo(strings.Repeat("}a", n))))
		checkWord(t, strings.Repeat("a\\\n", n), lit(strings.Repeat("a", n)))
		checkWord(t, "${"+strings.Repeat("a1", n)+"?"+strings.Repeat(";", n)+"}", par(strings.Repeat("a1", n), "?", lit(strings.Repeat(";", n))))
	}
}

// P4.6
func TestScan(t *testing.T) {
	checkScan(t, "", anEnd(0))
	checkScan(t, "a\x00\xff\n", aWord(0, lit("a\x00\xff")), aLine(3), anEnd(4))
	checkScan(t, "a < b", aWord(0, lit("a")), aBad(2, api.ErrForm))
	checkScan(t, "if a; then { b & }; fi\n", aWord(0, lit("if")), aWord(3, lit("a")), aSign(4, ";"), aWord(6, lit("then")), aWord(11, lit("{")), aWord(13, lit("b")), aSign(15, "&"), aWord(17, lit("}")), aSign(18, ";"), aWord(20, lit("fi")), aLine(22), anEnd(23))
	s := strings.Repeat("ab;\n", 50000)
	if l := lex.Scan(s); len(l) != 150001 || !same(l[149999], aLine(len(s)-1)) || !same(l[150000], anEnd(len(s))) {
		t.Errorf("Scan of %d bytes has %d tokens", len(s), len(l))
	}
}

// P4.6: an answer is new memory, and its lists are apart.
func TestScanShares(t *testing.T) {
	s := "a$x\"b${y-c${z+d}}\" a$x\"b${y-c${z+d}}\" ${v-'a'b}${v-'a'b}"
	before := lex.Scan(s)
	for i := range before {
		l := lex.Scan(s)
		scribble(l[i].Word)
		_ = append(l[:i:cap(l)], lex.Token{})
		for j, x := range l {
			if j != i && !same(x, before[j]) {
				t.Errorf("the tokens %d and %d of an answer share", i, j)
			}
		}
	}
	twins := lex.Scan(s)[2].Word
	scribble(twins[0].Of)
	if !word.Same(twins[1:], before[2].Word[1:]) {
		t.Error("two parameters of a word share")
	}
	if !slices.EqualFunc(lex.Scan(s), before, same) {
		t.Error("two answers of Scan share")
	}
}

// scribble writes over parts, and what they have room for.
func scribble(l []api.Part) {
	for i, p := range l[:cap(l)] {
		scribble(p.Of)
		l[:cap(l)][i] = quo("scribble" + strconv.Itoa(i))
	}
}
