// Package num is layer 1: numbers that don't go over. See shared/doc/01-num.md.
package num

import (
	"math/bits"
	"strconv"
	"strings"

	"checkroll/api"
)

// longest is how many bytes a number's text may have: those of -MaxNum.
const longest = 20

// Right tells whether n is a number: from -MaxNum to MaxNum.
func Right(n int64) bool {
	return -api.MaxNum <= n && n <= api.MaxNum
}

// Add two numbers: false, if one is none, or their sum.
func Add(a, b int64) (int64, bool) {
	if !Right(a) || !Right(b) {
		return 0, false
	}
	// Of two numbers only MaxNum and MaxNum wraps round: to int64's lowest, which is no number either.
	return number(a + b)
}

// Mul two numbers: false, if one is none, or their product.
func Mul(a, b int64) (int64, bool) {
	if !Right(a) || !Right(b) {
		return 0, false
	}
	high, low := bits.Mul64(size(a), size(b))
	if high != 0 || low > uint64(api.MaxNum) {
		return 0, false
	}
	if (a < 0) != (b < 0) {
		return -int64(low), true
	}
	return int64(low), true
}

// Sum of all: false, if one is no number, or the whole sum is none.
func Sum(l []int64) (int64, bool) {
	// 128 bits, two's complement: what stands between may be beyond an int64.
	var high, low, carry uint64
	for _, n := range l {
		if !Right(n) {
			return 0, false
		}
		low, carry = bits.Add64(low, uint64(n), 0)
		high, _ = bits.Add64(high, signs(n), carry)
	}
	if high != signs(int64(low)) {
		return 0, false
	}
	return number(int64(low))
}

// Show a number's text: empty, if n is none.
func Show(n int64) string {
	if !Right(n) {
		return ""
	}
	return strconv.FormatInt(n, 10)
}

// Parse a number's text.
func Parse(text string) (int64, api.Errno) {
	if len(text) > longest {
		return 0, api.ErrLong
	}
	if !formed(text) {
		return 0, api.ErrForm
	}
	n, err := strconv.ParseInt(text, 10, 64)
	// Of a text that is so formed nothing but its range can be refused.
	if err != nil || !Right(n) {
		return 0, api.ErrOver
	}
	return n, api.OK
}

// number answers n and true, if it is one.
func number(n int64) (int64, bool) {
	if !Right(n) {
		return 0, false
	}
	return n, true
}

// size of a number, without its sign.
func size(n int64) uint64 {
	if n < 0 {
		return uint64(-n)
	}
	return uint64(n)
}

// signs are the 64 bits above n, when it stands in 128.
func signs(n int64) uint64 {
	return uint64(n >> 63)
}

// formed tells whether a text has digits, the first one 0 only if it is alone, and at most a - ahead.
func formed(text string) bool {
	digits, below := strings.CutPrefix(text, "-")
	if digits == "" {
		return false
	}
	if digits[0] == '0' {
		// 0 is not below 0: it stands without a -.
		return digits == "0" && !below
	}
	for i := range len(digits) {
		if digits[i] < '0' || digits[i] > '9' {
			return false
		}
	}
	return true
}
