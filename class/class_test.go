package class_test

import (
	"slices"
	"strconv"
	"strings"
	"testing"

	"deadfall/class"
)

// What the chapter lists, as it stands there; bytes by their numbers.
var (
	blanks   = []byte{32, 9}
	breaks   = []byte{32, 9, 10}
	signs    = []byte{';', '&', '|', '(', ')', '<', '>'}
	unbare   = []byte{34, 36, 39, 92, 96}
	specials = []string{"@", "*", "#", "?", "$", "!"}
	reserved = []string{"!", "{", "}", "if", "then", "else", "elif", "fi", "while", "until", "do", "done", "for", "in", "case", "esac"}
)

const (
	letters = "abcdefghijklmnopqrstuvwxyzABCDEFGHIJKLMNOPQRSTUVWXYZ_"
	digits  = "0123456789"
)

// short has all texts of at most two bytes.
func short() []string {
	l := []string{""}
	for a := range 256 {
		l = append(l, string([]byte{byte(a)}))
		for b := range 256 {
			l = append(l, string([]byte{byte(a), byte(b)}))
		}
	}
	return l
}

// isName tells by the chapter's words whether a text is a Name.
func isName(s string) bool {
	return s != "" && strings.IndexByte(letters, s[0]) >= 0 && only(s, letters+digits)
}

// isNumber tells by the chapter's words whether a text is a number that is a Param.
func isNumber(s string) bool {
	return 1 <= len(s) && len(s) <= 3 && only(s, digits) && (s[0] != '0' || len(s) == 1)
}

// only: are all bytes of s among these?
func only(s, bytes string) bool {
	for i := 0; i < len(s); i++ {
		if strings.IndexByte(bytes, s[i]) < 0 {
			return false
		}
	}
	return true
}

// P2.1
func TestBlankBreakSign(t *testing.T) {
	for i := range 256 {
		c := byte(i)
		if got := class.Blank(c); got != slices.Contains(blanks, c) {
			t.Errorf("Blank(%d) is %v", c, got)
		}
		if got := class.Break(c); got != slices.Contains(breaks, c) {
			t.Errorf("Break(%d) is %v", c, got)
		}
		if got := class.Sign(c); got != slices.Contains(signs, c) {
			t.Errorf("Sign(%d) is %v", c, got)
		}
	}
}

// P2.1
func TestBare(t *testing.T) {
	others := slices.Concat(breaks, signs, unbare)
	for i := range 256 {
		c := byte(i)
		if got := class.Bare(c); got == slices.Contains(others, c) {
			t.Errorf("Bare(%d) is %v", c, got)
		}
	}
}

// P2.1
func TestLetterAndDigit(t *testing.T) {
	for i := range 256 {
		c := byte(i)
		if got := class.Letter(c); got != (strings.IndexByte(letters, c) >= 0) {
			t.Errorf("Letter(%d) is %v", c, got)
		}
		if got := class.Digit(c); got != (strings.IndexByte(digits, c) >= 0) {
			t.Errorf("Digit(%d) is %v", c, got)
		}
	}
}

// P2.2
func TestShortTexts(t *testing.T) {
	for _, s := range short() {
		name := isName(s)
		if got := class.Name(s); got != name {
			t.Errorf("Name(%q) is %v", s, got)
		}
		if got := class.Param(s); got != (name || slices.Contains(specials, s) || isNumber(s)) {
			t.Errorf("Param(%q) is %v", s, got)
		}
		if got := class.Reserved(s); got != slices.Contains(reserved, s) {
			t.Errorf("Reserved(%q) is %v", s, got)
		}
	}
}

// P2.2
func TestNames(t *testing.T) {
	long := strings.Repeat("a_9Z", 100000)
	for _, s := range []string{"_a1", "abc", "A1_", "___", "a00", "x1y", "PATH", "azAZ_09", letters, letters + digits, "if1", "done", long} {
		if !class.Name(s) || !class.Param(s) {
			t.Errorf("Name, Param(%.40q) are %v, %v", s, class.Name(s), class.Param(s))
		}
	}
	for _, s := range []string{"1a", "1aa", "9_9", "a-b", "a b", "ab ", " ab", "ab\n", "a.b", "a=b", "a\x00b", "abc\x00", "ab\xff", "é", "aé", "éa", "名前", "\u212a", "a\u017fb", "a@b", "a[b", "a`b", "a{b", "a/b", "a:b", long + "-", "1" + long} {
		if class.Name(s) || class.Param(s) {
			t.Errorf("Name, Param(%.40q) are %v, %v", s, class.Name(s), class.Param(s))
		}
	}
}

// P2.2
func TestNumbers(t *testing.T) {
	for n := range 2000 {
		s := strconv.Itoa(n)
		if got := class.Param(s); got != (n < 1000) {
			t.Errorf("Param(%q) is %v", s, got)
		}
		if class.Name(s) || class.Reserved(s) {
			t.Errorf("%q is a Name, or Reserved", s)
		}
		if n > 0 && class.Param("0"+s) {
			t.Errorf("Param(%q) is true", "0"+s)
		}
	}
	for _, s := range []string{"00", "000", "0000", "-1", "+1", " 1", "1 ", "1\n", "12 ", "1.0", "0x1", "1_0", "1-2", "12/", "12:", "/12", ":12", "12\x00", "1\xff2", "12\xb5", "٢", "१", strings.Repeat("9", 100000)} {
		if class.Param(s) {
			t.Errorf("Param(%.40q) is true", s)
		}
	}
}

// P2.2
func TestSpecials(t *testing.T) {
	for _, s := range specials {
		if !class.Param(s) || class.Name(s) {
			t.Errorf("Param, Name(%q) are %v, %v", s, class.Param(s), class.Name(s))
		}
		for _, o := range append([]string{"a", "1", "0", " ", "\x00"}, specials...) {
			if class.Param(s+o) || class.Param(o+s) {
				t.Errorf("Param(%q), or Param(%q), is true", s+o, o+s)
			}
		}
	}
	if all := strings.Join(specials, ""); class.Param(all) {
		t.Errorf("Param(%q) is true", all)
	}
}

// P2.2
func TestReserved(t *testing.T) {
	for _, s := range reserved {
		if !class.Reserved(s) {
			t.Errorf("Reserved(%q) is false", s)
		}
		for _, near := range []string{s + " ", " " + s, s + "\n", s + "\x00", s + "x", "x" + s, s + s, s[1:], s[:len(s)-1], strings.ToUpper(s)} {
			if got := class.Reserved(near); got != slices.Contains(reserved, near) {
				t.Errorf("Reserved(%q) is %v", near, got)
			}
		}
	}
	for _, s := range []string{"function", "select", "time", "[[", "]]", "{}", "!!", "((", "return", "break", "continue", "exit", "trap", "endif", "elseif", "od", strings.Join(reserved, " "), strings.Repeat("if", 100000)} {
		if class.Reserved(s) {
			t.Errorf("Reserved(%.40q) is true", s)
		}
	}
}

// P2.2: what is Reserved is a Name where it is of Letters alone.
func TestReservedNames(t *testing.T) {
	for _, s := range reserved {
		if got := class.Name(s); got != isName(s) {
			t.Errorf("Name(%q) is %v", s, got)
		}
	}
}
