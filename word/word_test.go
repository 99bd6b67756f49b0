package word_test

import (
	"errors"
	"math"
	"math/big"
	"math/rand"
	"regexp"
	"strings"
	"testing"

	"distaff/api"
	"distaff/word"
)

const top = math.MaxUint64

// noWidths are numbers that are no width, though they lie beside one, or agree with one in some bits.
var noWidths = []int{math.MinInt, -64, -32, -1, 0, 1, 16, 31, 33, 63, 65, 96, 128, 1<<32 + 32, 1<<32 + 64, math.MaxInt}

// edges are the values at which a word of 32 or 64 bits begins, ends or wraps around.
var edges = []uint64{0, 1, 2, 9, 10, 15, 16, 1<<31 - 1, 1 << 31, 1<<32 - 2, 1<<32 - 1, 1 << 32, 1<<32 + 1, 1<<33 - 1, 1<<63 - 1, 1 << 63, 10000000000000000000, 0x0123456789ABCDEF, top - 1, top}

// values are the edges and some values between them.
func values() []uint64 {
	r := rand.New(rand.NewSource(1))
	l := append([]uint64{}, edges...)
	for range 40 {
		l = append(l, r.Uint64()>>r.Intn(64))
	}
	return l
}

// modulo is x modulo 2^width, at least 0, in whole numbers without a bound.
func modulo(x *big.Int, width int) uint64 {
	m := new(big.Int).Lsh(big.NewInt(1), uint(width))
	return new(big.Int).Mod(x, m).Uint64()
}

func whole(v uint64) *big.Int { return new(big.Int).SetUint64(v) }

// P1.1

func TestCutOfEachWidth(t *testing.T) {
	for _, v := range values() {
		for _, width := range []int{api.Narrow, api.Wide} {
			if got, want := word.Cut(width, v), modulo(whole(v), width); got != want {
				t.Errorf("Cut(%d, %d) is %d, not %d", width, v, got, want)
			}
		}
		for _, width := range noWidths {
			if got := word.Cut(width, v); got != 0 {
				t.Errorf("Cut(%d, %d) is %d, not 0", width, v, got)
			}
		}
	}
}

func TestFitsOfEachWidth(t *testing.T) {
	for _, v := range values() {
		if got, want := word.Fits(api.Narrow, v), v < 1<<32; got != want {
			t.Errorf("Fits(32, %d) is %v", v, got)
		}
		if !word.Fits(api.Wide, v) {
			t.Errorf("Fits(64, %d) is false", v)
		}
		for _, width := range noWidths {
			if word.Fits(width, v) {
				t.Errorf("Fits(%d, %d) is true", width, v)
			}
		}
	}
}

func TestSumAndLessOfEachWidth(t *testing.T) {
	for _, a := range values() {
		for _, b := range values() {
			for _, width := range []int{api.Narrow, api.Wide} {
				sum := modulo(new(big.Int).Add(whole(a), whole(b)), width)
				if got := word.Sum(width, a, b); got != sum {
					t.Errorf("Sum(%d, %d, %d) is %d, not %d", width, a, b, got, sum)
				}
				less := modulo(new(big.Int).Sub(whole(a), whole(b)), width)
				if got := word.Less(width, a, b); got != less {
					t.Errorf("Less(%d, %d, %d) is %d, not %d", width, a, b, got, less)
				}
			}
			for _, width := range noWidths {
				if word.Sum(width, a, b) != 0 || word.Less(width, a, b) != 0 {
					t.Errorf("width %d: %d, %d", width, word.Sum(width, a, b), word.Less(width, a, b))
				}
			}
		}
	}
}

func TestSumAndLessByHand(t *testing.T) {
	for _, r := range []struct {
		width           int
		a, b, sum, less uint64
	}{
		{32, 4294967295, 2, 1, 4294967293},
		{32, 1<<32 + 3, 1<<40 + 5, 8, 4294967294},
		{32, 0, 1, 1, 4294967295},
		{64, 4294967295, 2, 4294967297, 4294967293},
		{64, top, 2, 1, top - 2},
		{64, 0, 1, 1, top},
		{48, 7, 2, 0, 0},
	} {
		if sum, less := word.Sum(r.width, r.a, r.b), word.Less(r.width, r.a, r.b); sum != r.sum || less != r.less {
			t.Errorf("%+v: %d, %d", r, sum, less)
		}
	}
}

func TestMeet(t *testing.T) {
	for i := range 64 {
		for j := range 64 {
			if got := word.Meet(1<<i, 1<<j); got != (i == j) {
				t.Errorf("bits %d and %d: %v", i, j, got)
			}
		}
		if !word.Meet(1<<i, top) || !word.Meet(top, 1<<i) {
			t.Errorf("bit %d does not meet all bits", i)
		}
		if word.Meet(1<<i, top^1<<i) || word.Meet(1<<i, 0) || word.Meet(0, 1<<i) {
			t.Errorf("bit %d meets bits that are others", i)
		}
	}
	if word.Meet(0, 0) || word.Meet(0, top) || !word.Meet(6, 3) || word.Meet(5, 10) {
		t.Error("0, or several bits")
	}
}

// P1.2

func TestBucketByHand(t *testing.T) {
	for _, r := range []struct {
		a    uint64
		n    int
		want int
	}{
		{0, 8, 0},
		{1, 1 << 32, 0x9E3779B9},
		{2, 1 << 32, 0x3C6EF372},
		{top, 1 << 32, 0x61C88646},
		{1, 8, 1},
		{2, 8, 2},
		{1, 1, 0},
		{top, math.MaxInt, 0x61C88646},
	} {
		if got := word.Bucket(r.a, r.n); got != r.want {
			t.Errorf("Bucket(%d, %d) is %d, not %d", r.a, r.n, got, r.want)
		}
	}
}

func TestBucketOfEachNumber(t *testing.T) {
	factor, _ := new(big.Int).SetString("9E3779B97F4A7C15", 16)
	for _, a := range values() {
		product := modulo(new(big.Int).Mul(whole(a), factor), 64)
		upper := product / 4294967296
		for _, n := range []int{1, 2, 3, 7, 8, 64, 1000, 1<<32 - 1, 1 << 32, 1 << 40, math.MaxInt} {
			got := word.Bucket(a, n)
			if got < 0 || got >= n || uint64(got) != upper%uint64(n) {
				t.Errorf("Bucket(%d, %d) is %d, not %d", a, n, got, upper%uint64(n))
			}
		}
		for _, n := range []int{0, -1, -8, math.MinInt} {
			if got := word.Bucket(a, n); got != 0 {
				t.Errorf("Bucket(%d, %d) is %d, not 0", a, n, got)
			}
		}
	}
}

// P1.3

func TestPrint(t *testing.T) {
	for v, want := range map[uint64]string{0: "0", 7: "7", 10: "10", 4294967296: "4294967296", 1 << 63: "9223372036854775808", top: "18446744073709551615"} {
		if got := word.Print(v); got != want {
			t.Errorf("Print(%d) is %q", v, got)
		}
	}
	for _, v := range values() {
		if got := word.Print(v); got != whole(v).String() {
			t.Errorf("Print(%d) is %q", v, got)
		}
	}
}

func TestParseOfNumerals(t *testing.T) {
	for s, want := range map[string]uint64{
		"0":                    0,
		"9":                    9,
		"007":                  7,
		"00000000000000000000": 0,
		"01844674407370955161": 1844674407370955161,
		"18446744073709551615": top,
		"18446744073709551609": top - 6,
		"0x0":                  0,
		"0x1f":                 31,
		"0xaBcDeF":             0xABCDEF,
		"0xABCDEF0123456789":   0xABCDEF0123456789,
		"0xffffffffffffffff":   top,
		"0x000000000000000f":   15,
	} {
		v, err := word.Parse(s)
		if err != nil || v != want {
			t.Errorf("Parse(%q) is %d, %v", s, v, err)
		}
	}
}

// refused tests that s is refused at n, in the form of R2.
func refused(t *testing.T, s string, n int) {
	t.Helper()
	v, err := word.Parse(s)
	at, is := err.(*api.At)
	if !is {
		t.Errorf("Parse(%q): the error is %v", s, err)
		return
	}
	if v != 0 || at.Layer != "word" || at.N != n || !errors.Is(err, api.ErrText) {
		t.Errorf("Parse(%q) is %d, %s %d %v, not %d", s, v, at.Layer, at.N, at.Err, n)
	}
}

func TestParseOfOtherTexts(t *testing.T) {
	for s, n := range map[string]int{
		"":                       0,
		"12a":                    2,
		"a":                      0,
		"x1":                     0,
		"+1":                     0,
		"-1":                     0,
		" 1":                     0,
		"1 ":                     1,
		"1\n":                    1,
		"1_0":                    1,
		"1.":                     1,
		"1/":                     1,
		"1:":                     1,
		"1\x00":                  1,
		"1\xff":                  1,
		"1\u0663":                1,
		"0x":                     2,
		"0X1":                    1,
		"00x1":                   2,
		"1x1":                    1,
		"0xx":                    2,
		"0x-1":                   2,
		"0x1g":                   3,
		"0x1G":                   3,
		"0x1/":                   3,
		"0x1:":                   3,
		"0x1@":                   3,
		"0x1`":                   3,
		"18446744073709551616":   19,
		"18446744073709551620":   19,
		"18446744073709551616x":  19,
		"20000000000000000000":   19,
		"99999999999999999999":   19,
		"184467440737095516150":  20,
		"000000000000000000000":  20,
		"00000000000000000000x":  20,
		"0x00000000000000000":    18,
		"0x1ffffffffffffffff":    18,
		"0xfffffffffffffffff":    18,
		"0x0000000000000000 ":    18,
		"0x00000000000000000000": 18,
	} {
		refused(t, s, n)
	}
	refused(t, strings.Repeat("0", 1<<20), 20)
	refused(t, "0x"+strings.Repeat("0", 1<<20), 18)
}

var (
	numeral = regexp.MustCompile(`^([0-9]{1,20}|0x[0-9a-fA-F]{1,16})$`)
	begun   = regexp.MustCompile(`^([0-9]{0,20}|0x[0-9a-fA-F]{0,16})$`)
)

// valueOf is a numeral's value in whole numbers, 0 if no digits are there yet.
func valueOf(s string) *big.Int {
	base := 10
	if digits, is := strings.CutPrefix(s, "0x"); is {
		s, base = digits, 16
	}
	v, is := new(big.Int).SetString(s, base)
	if !is {
		return new(big.Int)
	}
	return v
}

// begins reports whether more bytes could make a numeral of s, or it is one.
func begins(s string) bool {
	return begun.MatchString(s) && valueOf(s).IsUint64()
}

// compare holds Parse against the words of P1.3, taken as patterns.
func compare(t *testing.T, s string) {
	t.Helper()
	if numeral.MatchString(s) && valueOf(s).IsUint64() {
		if v, err := word.Parse(s); err != nil || v != valueOf(s).Uint64() {
			t.Errorf("Parse(%q) is %d, %v", s, v, err)
		}
		return
	}
	n := 0
	for n < len(s) && begins(s[:n+1]) {
		n++
	}
	refused(t, s, n)
}

func TestParseOfAllShortTexts(t *testing.T) {
	texts := []string{""}
	for range 5 {
		for _, s := range texts {
			compare(t, s)
		}
		var longer []string
		for _, s := range texts {
			for _, c := range "019xXafF- " {
				longer = append(longer, s+string(c))
			}
		}
		texts = longer
	}
}

func TestParseOfEachByte(t *testing.T) {
	for c := range 256 {
		for _, s := range []string{"", "0", "1", "0x", "0x0", "18446744073709551615", "0xffffffffffffffff"} {
			compare(t, s+string([]byte{byte(c)}))
		}
	}
}

func TestParseOfLongTexts(t *testing.T) {
	r := rand.New(rand.NewSource(2))
	for range 20000 {
		s, digits := "", "0123456789"
		if r.Intn(2) == 0 {
			s, digits = "0x", "0123456789abcdefABCDEF"
		}
		for range 14 + r.Intn(9) {
			s += string(digits[r.Intn(len(digits))])
		}
		if r.Intn(4) == 0 {
			n := r.Intn(len(s))
			s = s[:n] + string("xg- "[r.Intn(4)]) + s[n+1:]
		}
		compare(t, s)
	}
}

func TestParseOfNumbersAroundTheGreatest(t *testing.T) {
	for d := int64(-300); d <= 300; d++ {
		v := new(big.Int).Add(whole(top), big.NewInt(d))
		compare(t, v.String())
		compare(t, "0x"+v.Text(16))
	}
}

func TestErrorsAreNotShared(t *testing.T) {
	_, first := word.Parse("12a")
	_, second := word.Parse("")
	var a, b *api.At
	if !errors.As(first, &a) || !errors.As(second, &b) {
		t.Fatal("no place")
	}
	if a == b || a.N != 2 || b.N != 0 {
		t.Errorf("%d, %d", a.N, b.N)
	}
}

// P1.4

func TestParseReadsWhatPrintWrites(t *testing.T) {
	for _, v := range values() {
		if got, err := word.Parse(word.Print(v)); err != nil || got != v {
			t.Errorf("%d comes back as %d, %v", v, got, err)
		}
	}
}

func TestSumAndLessAreInverse(t *testing.T) {
	for _, width := range []int{api.Narrow, api.Wide} {
		for _, a := range values() {
			for _, b := range values() {
				cut := word.Cut(width, a)
				if got := word.Less(width, word.Sum(width, a, b), b); got != cut {
					t.Errorf("width %d: %d + %d - %d is %d", width, a, b, b, got)
				}
				if got := word.Sum(width, word.Less(width, a, b), b); got != cut {
					t.Errorf("width %d: %d - %d + %d is %d", width, a, b, b, got)
				}
			}
		}
	}
}

func TestCutLeavesWhatFits(t *testing.T) {
	for _, width := range append([]int{api.Narrow, api.Wide}, noWidths...) {
		for _, v := range values() {
			cut := word.Cut(width, v)
			if word.Fits(width, v) && cut != v {
				t.Errorf("Cut(%d, %d) is %d", width, v, cut)
			}
			if word.Cut(width, cut) != cut {
				t.Errorf("Cut(%d, ..) twice is not as once: %d", width, v)
			}
		}
	}
}
