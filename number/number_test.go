package number_test

import (
	"math"
	"math/big"
	"math/rand"
	"strconv"
	"strings"
	"testing"

	"deadfall/api"
	"deadfall/number"
)

// right are texts that have a number, at the edges: one digit, nine, noughts ahead, noughts alone.
var right = map[string]int{
	"0": 0, "1": 1, "9": 9, "10": 10, "00": 0, "000000000": 0, "07": 7, "007": 7, "08": 8, "010": 10, "09": 9,
	"000000001": 1, "255": 255, "256": 256, "12345678": 12345678, "123456789": 123456789, "999999999": api.MaxNumber, "099999999": 99999999,
}

// wrong are texts that have none: too long, with signs, blanks, marks, digits of other kinds, of other bases.
var wrong = []string{
	"", "-", "+", "-1", "+1", "-0", " 1", "1 ", "1\n", "\t1", "1\x00", "\x001", "a", "1a", "a1", "0x1", "0b1", "0o7", "1e3", "1.", "1.0", ".5", "1_0", "1,0",
	"0000000000", "0000000001", "1000000000", "2147483648", "4294967297", "9999999999", "18446744073709551617", "999999999999999999999999",
	"/", ":", "1/", "1:", "/1", ":1", "\u0661", "\uff11", "1\u0661", "\xb1", "1\xff", strings.Repeat("0", 4096), strings.Repeat("1", 1<<20),
}

// P14.1
func TestRead(t *testing.T) {
	for s, want := range right {
		if n, ok := number.Read(s); n != want || !ok {
			t.Errorf("Read(%q) is %d, %v", s, n, ok)
		}
	}
	for _, s := range wrong {
		if n, ok := number.Read(s); n != 0 || ok {
			t.Errorf("Read(%.20q) is %d, %v", s, n, ok)
		}
	}
}

// P14.1: no byte but a digit stands anywhere in a number.
func TestReadBytes(t *testing.T) {
	for c := range 256 {
		digit := strings.Contains("0123456789", string([]byte{byte(c)}))
		for at := range 9 {
			b := []byte("111111111")
			b[at] = byte(c)
			n, ok := number.Read(string(b))
			want, err := strconv.Atoi(string(b))
			if digit && (!ok || err != nil || n != want) || !digit && (ok || n != 0) {
				t.Errorf("Read(%q) is %d, %v", b, n, ok)
			}
		}
		n, ok := number.Read(string([]byte{byte(c)}))
		if ok != digit || digit && n != c-48 || !digit && n != 0 {
			t.Errorf("Read of the byte %d is %d, %v", c, n, ok)
		}
	}
}

// P14.1: from 1 to 9 digits.
func TestReadLengths(t *testing.T) {
	for _, digit := range []string{"0", "1", "9"} {
		for l := range 40 {
			s := strings.Repeat(digit, l)
			n, ok := number.Read(s)
			want := 0
			if 1 <= l && l <= 9 {
				want, _ = strconv.Atoi(s)
			}
			if n != want || ok != (1 <= l && l <= 9) {
				t.Errorf("Read(%q) is %d, %v", s, n, ok)
			}
		}
	}
}

// P14.1
func TestCount(t *testing.T) {
	for i, c := range []struct {
		s    string
		most int
		want int
	}{
		{"1", 1, 1}, {"1", 2, 1}, {"2", 2, 2}, {"3", 2, 2}, {"9", 2, 2}, {"007", 5, 5}, {"005", 7, 5}, {"999999999", 1, 1},
		{"999999999", math.MaxInt, api.MaxNumber}, {"999999999", api.MaxNumber, api.MaxNumber}, {"999999999", api.MaxNumber - 1, api.MaxNumber - 1},
		{"1", 0, 0}, {"9", 0, 0}, {"1", -1, 0}, {"9", -1, 0}, {"9", -9, 0}, {"1", math.MinInt, 0}, {"999999999", math.MinInt, 0},
		{"5", 1<<32 + 2, 5}, {"5", -1<<32 + 2, 0},
	} {
		if n, ok := number.Count(c.s, c.most); n != c.want || !ok {
			t.Errorf("%d: Count(%q, %d) is %d, %v", i, c.s, c.most, n, ok)
		}
	}
}

// P14.1: nought is no count, however it is written and whatever is most; nor is what Read has none of.
func TestCountWrong(t *testing.T) {
	for _, s := range append([]string{"0", "00", "000000000"}, wrong...) {
		for _, most := range []int{math.MinInt, -1, 0, 1, 2, math.MaxInt} {
			if n, ok := number.Count(s, most); n != 0 || ok {
				t.Errorf("Count(%.20q, %d) is %d, %v", s, most, n, ok)
			}
		}
	}
}

// P14.2: the remainder is held against the numbers that are written out, and against big's, which is never below 0.
func TestStatus(t *testing.T) {
	for n, want := range map[int]int{
		0: 0, 1: 1, 127: 127, 128: 128, 255: 255, 256: 0, 257: 1, 300: 44, 511: 255, 512: 0, 999999999: 255, 1 << 40: 0,
		-1: 255, -2: 254, -128: 128, -255: 1, -256: 0, -257: 255, -300: 212, -1 << 40: 0,
		math.MaxInt: 255, math.MinInt: 0, math.MinInt + 1: 1,
	} {
		if got := number.Status(n); got != want {
			t.Errorf("Status(%d) is %d", n, got)
		}
	}
	r := rand.New(rand.NewSource(14))
	for i := range 20000 {
		n := i - 10000
		if i%2 == 1 {
			n = int(r.Uint64())
		}
		want := new(big.Int).Mod(big.NewInt(int64(n)), big.NewInt(256)).Int64()
		if got := number.Status(n); int64(got) != want {
			t.Fatalf("Status(%d) is %d, not %d", n, got, want)
		}
	}
}

// P14.2
func TestText(t *testing.T) {
	for n, want := range map[int]string{
		0: "0", 1: "1", 9: "9", 10: "10", 100: "100", 255: "255", 999999999: "999999999", 1000000000: "1000000000",
		-1: "-1", -10: "-10", -120: "-120", math.MaxInt: "9223372036854775807", math.MinInt: "-9223372036854775808",
	} {
		if got := number.Text(n); got != want {
			t.Errorf("Text(%d) is %q", n, got)
		}
	}
	r := rand.New(rand.NewSource(15))
	for i := range 20000 {
		n := i - 10000
		if i%2 == 1 {
			n = int(r.Uint64()) >> r.Intn(64)
		}
		if got := number.Text(n); got != big.NewInt(int64(n)).String() {
			t.Fatalf("Text(%d) is %q", n, got)
		}
	}
}

// P14.1, P14.2: what is written is read again, and the number stays as noughts come ahead.
func TestReadText(t *testing.T) {
	for _, n := range []int{0, 1, 7, 10, 99, 100, 12345, 99999999, 100000000, api.MaxNumber} {
		s := number.Text(n)
		for len(s) <= 9 {
			if got, ok := number.Read(s); got != n || !ok {
				t.Errorf("Read(%q) is %d, %v", s, got, ok)
			}
			s = "0" + s
		}
		if got, ok := number.Read(s); got != 0 || ok {
			t.Errorf("Read(%q) is %d, %v", s, got, ok)
		}
	}
	if n, ok := number.Read(number.Text(api.MaxNumber + 1)); n != 0 || ok {
		t.Error(n, ok)
	}
}

// P14.1: texts by chance, held against a second reading, by counting the digits that are there.
func TestReadThrown(t *testing.T) {
	r := rand.New(rand.NewSource(16))
	for range 50000 {
		b := make([]byte, r.Intn(12))
		for i := range b {
			b[i] = "0123456789012345678901234567890123456789-+ ax/:"[r.Intn(47)]
		}
		s := string(b)
		want, ok := 0, len(s) > 0 && len(s) <= 9 && strings.Trim(s, "0123456789") == ""
		if ok {
			want, _ = strconv.Atoi(s)
		}
		if n, got := number.Read(s); n != want || got != ok {
			t.Fatalf("Read(%q) is %d, %v", s, n, got)
		}
		most := r.Intn(2000) - 1000
		count, counts := 0, ok && want > 0
		if counts && most > 0 {
			count = min(want, most)
		}
		if n, got := number.Count(s, most); n != count || got != counts {
			t.Fatalf("Count(%q, %d) is %d, %v", s, most, n, got)
		}
	}
}
