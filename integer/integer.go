// Package integer is layer 1: integers of any size. See shared/doc/01-integer.md.
//
// The exported functions check their arguments and handle the signs. The other files compute with magnitudes: lists of 32-bit digits, the least significant one first.
package integer

import (
	"slices"

	"substation/api"
)

// MaxDigits is the largest number of 32-bit digits of an integer.
const (
	MaxDigits = 400
)

// Valid reports whether x is a valid integer.
func Valid(x api.Int) bool {
	n := len(x.Mag)
	if n == 0 {
		return !x.Neg
	}
	return n <= MaxDigits && x.Mag[n-1] != 0
}

// Of returns n as an integer.
func Of(n int) api.Int {
	m := uint64(n)
	if n < 0 {
		m = -m
	}
	return api.Int{Neg: n < 0, Mag: digits(m)}
}

// Small returns x as an int, and whether it fits.
func Small(x api.Int) (int, bool) {
	if !Valid(x) || len(x.Mag) > 2 {
		return 0, false
	}
	m := word(x.Mag)
	switch {
	case x.Neg && m <= 1<<63:
		return int(-m), true
	case !x.Neg && m < 1<<63:
		return int(m), true
	}
	return 0, false
}

// Compare returns -1, 0 or 1 if x is less than, equal to or greater than y.
func Compare(x, y api.Int) int {
	if !Valid(x) || !Valid(y) {
		return 0
	}
	switch {
	case x.Neg && y.Neg:
		return compare(y.Mag, x.Mag)
	case x.Neg:
		return -1
	case y.Neg:
		return 1
	}
	return compare(x.Mag, y.Mag)
}

// Sign returns -1, 0 or 1 if x is negative, zero or positive.
func Sign(x api.Int) int { return Compare(x, api.Int{}) }

// Neg returns -x.
func Neg(x api.Int) (api.Int, api.Errno) {
	if !Valid(x) {
		return api.Int{}, api.ErrArg
	}
	return signed(!x.Neg, slices.Clone(x.Mag))
}

// Add returns x + y.
func Add(x, y api.Int) (api.Int, api.Errno) {
	if !Valid(x) || !Valid(y) {
		return api.Int{}, api.ErrArg
	}
	return sum(x, y.Neg, y.Mag)
}

// Sub returns x - y.
func Sub(x, y api.Int) (api.Int, api.Errno) {
	if !Valid(x) || !Valid(y) {
		return api.Int{}, api.ErrArg
	}
	return sum(x, !y.Neg, y.Mag)
}

// Mul returns x * y.
func Mul(x, y api.Int) (api.Int, api.Errno) {
	if !Valid(x) || !Valid(y) {
		return api.Int{}, api.ErrArg
	}
	return signed(x.Neg != y.Neg, multiply(x.Mag, y.Mag))
}

// Divide returns the quotient and the remainder of x and y; the remainder is not negative.
func Divide(x, y api.Int) (q, r api.Int, e api.Errno) {
	if !Valid(x) || !Valid(y) {
		return api.Int{}, api.Int{}, api.ErrArg
	}
	if len(y.Mag) == 0 {
		return api.Int{}, api.Int{}, api.ErrZero
	}
	quotient, rest := divide(x.Mag, y.Mag)
	if x.Neg && len(rest) > 0 {
		// x lies between two multiples of y, and the remainder counts from the lower one.
		quotient = add(quotient, []uint32{1})
		rest = subtract(y.Mag, rest)
	}
	// Neither result leaves the range: the rest is less than |y|, and only a |y| of 2 or more leaves a rest that raises the quotient.
	q, _ = signed(x.Neg != y.Neg, quotient)
	r, _ = signed(false, rest)
	return q, r, api.OK
}

// Gcd returns the greatest common divisor of x and y.
func Gcd(x, y api.Int) (api.Int, api.Errno) {
	if !Valid(x) || !Valid(y) {
		return api.Int{}, api.ErrArg
	}
	return signed(false, gcd(x.Mag, y.Mag))
}

// Root returns the integer part of the square root of x.
func Root(x api.Int) (api.Int, api.Errno) {
	if !Valid(x) || x.Neg {
		return api.Int{}, api.ErrArg
	}
	return signed(false, root(x.Mag))
}

// sum returns the sum of x and of the number with the sign neg and the magnitude mag, which is -0 when 0 is subtracted.
func sum(x api.Int, neg bool, mag []uint32) (api.Int, api.Errno) {
	if x.Neg == neg {
		return signed(neg, add(x.Mag, mag))
	}
	if compare(x.Mag, mag) >= 0 {
		return signed(x.Neg, subtract(x.Mag, mag))
	}
	return signed(neg, subtract(mag, x.Mag))
}

// signed returns the integer with a sign and a magnitude, which it keeps; 0 has no sign.
func signed(neg bool, mag []uint32) (api.Int, api.Errno) {
	mag = trim(mag)
	if len(mag) > MaxDigits {
		return api.Int{}, api.ErrRange
	}
	return api.Int{Neg: neg && len(mag) > 0, Mag: mag}, api.OK
}
