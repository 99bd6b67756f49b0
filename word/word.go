// Package word: machine words of 64 and 32 bits, buckets of addresses, numerals (doc/01-word.md).
package word

import (
	"math/bits"
	"strconv"
	"strings"

	"distaff/api"
)

// spread is the golden ratio's fraction in 64 bits: times it, addresses that lie side by side differ in their upper bits.
const spread = 0x9E3779B97F4A7C15

// Cut is v modulo 2^width, and 0 if that is no width.
func Cut(width int, v uint64) uint64 {
	cut, _ := reduce(width, v)
	return cut
}

// Fits reports whether v is a word of that width.
func Fits(width int, v uint64) bool {
	cut, is := reduce(width, v)
	return is && cut == v
}

// Sum is a + b in words of that width.
func Sum(width int, a, b uint64) uint64 {
	return Cut(width, Cut(width, a)+Cut(width, b))
}

// Less is a - b in words of that width.
func Less(width int, a, b uint64) uint64 {
	return Cut(width, Cut(width, a)-Cut(width, b))
}

// Meet reports whether some bit is 1 in both.
func Meet(a, b uint64) bool { return a&b != 0 }

// Bucket is the number of the bucket, of n, to which an address belongs.
func Bucket(a uint64, n int) int {
	if n < 1 {
		return 0
	}
	return int((a * spread >> 32) % uint64(n))
}

// Print is v in decimal.
func Print(v uint64) string { return strconv.FormatUint(v, 10) }

// Parse is the value of a numeral, decimal or behind 0x hexadecimal.
func Parse(s string) (uint64, error) {
	base, from, most := uint64(10), 0, 20
	if strings.HasPrefix(s, "0x") {
		base, from, most = 16, 2, 16
	}
	v := uint64(0)
	for i := from; i < len(s); i++ {
		d := digit(s[i])
		if d >= base || i == from+most {
			return 0, noNumeral(i)
		}
		more, is := withDigit(v, base, d)
		if !is {
			return 0, noNumeral(i)
		}
		v = more
	}
	if len(s) == from {
		return 0, noNumeral(from)
	}
	return v, nil
}

// reduce also tells a width from other numbers, which Fits must know: 0 is what Cut returns for both.
func reduce(width int, v uint64) (uint64, bool) {
	switch width {
	case api.Narrow:
		v &= 1<<api.Narrow - 1
		fallthrough
	case api.Wide:
		return v, true
	}
	return 0, false
}

// digit is what a byte stands for in a numeral, and 16, which no base has, if it is no digit.
func digit(c byte) uint64 {
	switch {
	case c >= '0' && c <= '9':
		return uint64(c - '0')
	case c >= 'A' && c <= 'F':
		c += 'a' - 'A'
		fallthrough
	case c >= 'a' && c <= 'f':
		return uint64(c-'a') + 10
	}
	return 16
}

// withDigit is v with one digit more; it is false if that is no word of 64 bits.
func withDigit(v, base, d uint64) (uint64, bool) {
	high, low := bits.Mul64(v, base)
	sum, carry := bits.Add64(low, d, 0)
	if high != 0 || carry != 0 {
		return 0, false
	}
	return sum, true
}

func noNumeral(n int) error {
	return &api.At{Layer: "word", N: n, Err: api.ErrText}
}
