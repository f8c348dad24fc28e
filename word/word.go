// Package word is layer 1: the 63-bit integers of the language (see shared/doc/01-word.md).
package word

import (
	"triglyph/api"
)

// Wrap returns the integer of the language that differs from n by a multiple of 2^63.
func Wrap(n int64) int64 {
	// The highest bit is dropped, and the one below it becomes the sign.
	return n << 1 >> 1
}

// Add returns a + b, wrapped. The wrap-round of int64 loses nothing, here and below: 2^64 is a multiple of 2^63.
func Add(a, b int64) int64 { return Wrap(a + b) }

// Sub returns a - b, wrapped.
func Sub(a, b int64) int64 { return Wrap(a - b) }

// Mul returns a * b, wrapped.
func Mul(a, b int64) int64 { return Wrap(a * b) }

// Div returns the quotient of a and b, truncated towards 0 and wrapped, or ErrWordZero if b is 0.
func Div(a, b int64) (int64, api.Errno) {
	a, b = Wrap(a), Wrap(b)
	if b == 0 {
		return 0, api.ErrWordZero
	}
	// The quotient of MinInt and -1 is the only one that needs the Wrap.
	return Wrap(a / b), api.OK
}

// Mod returns the remainder of that quotient, with the sign of a, or ErrWordZero if b is 0.
func Mod(a, b int64) (int64, api.Errno) {
	a, b = Wrap(a), Wrap(b)
	if b == 0 {
		return 0, api.ErrWordZero
	}
	return a % b, api.OK
}

// Sum returns the sum of all arguments, wrapped, and 0 for none.
func Sum(l ...int64) int64 {
	sum := int64(0)
	for _, n := range l {
		sum = Add(sum, n)
	}
	return sum
}

// Show returns the decimal digits of n, preceded by `~` if n is negative.
func Show(n int64) string {
	n = Wrap(n)
	if n < 0 {
		return "~" + digits(-n) // 2^62, the greatest -n, is an int64 too
	}
	return digits(n)
}

// maxDigits is the number of digits of 2^62, the greatest absolute value.
const maxDigits = 19

// digits returns the decimal digits of n, which is from 0 to 2^62.
func digits(n int64) string {
	var text [maxDigits]byte
	at := len(text) - 1
	for ; n >= 10; n /= 10 {
		text[at] = byte('0' + n%10)
		at--
	}
	text[at] = byte('0' + n)
	return string(text[at:])
}

// Read returns the integer of the language whose Show is s, or ErrWordText if there is none.
func Read(s string) (int64, api.Errno) {
	n, sign := int64(0), int64(1)
	for at, r := range s {
		switch {
		case at == 0 && r == '~':
			sign = -1
		case '0' <= r && r <= '9':
			n = n*10 + sign*int64(r-'0')
		default:
			return 0, api.ErrWordText
		}
	}
	// Leading zeros, `~0`, a text without digits and an integer that is too great
	// (n may have wrapped round by then) have this in common: n does not show as s.
	if Show(n) != s {
		return 0, api.ErrWordText
	}
	return n, api.OK
}
