package integer

import (
	"math/bits"
	"slices"
)

// trim returns d without its leading zero digits. Its capacity ends with it: what is appended later does not reach the digits that were cut off.
func trim(d []uint32) []uint32 {
	n := len(d)
	for n > 0 && d[n-1] == 0 {
		n--
	}
	if n == 0 {
		return nil
	}
	return d[:n:n]
}

// digits returns the digits of m.
func digits(m uint64) []uint32 { return trim([]uint32{uint32(m), uint32(m >> 32)}) }

// word returns the value of at most two digits.
func word(d []uint32) uint64 { return uint64(at(d, 1))<<32 | uint64(at(d, 0)) }

// at returns digit i of d, which is 0 beyond its end.
func at(d []uint32, i int) uint32 {
	if i < len(d) {
		return d[i]
	}
	return 0
}

// length returns the number of bits of d, which is not 0.
func length(d []uint32) int {
	n := len(d) - 1
	return 32*n + bits.Len32(d[n])
}

// compare returns -1, 0 or 1 if x is less than, equal to or greater than y; both are trimmed.
func compare(x, y []uint32) int {
	if len(x) != len(y) {
		return sign(len(x) < len(y))
	}
	for i := len(x) - 1; i >= 0; i-- {
		if x[i] != y[i] {
			return sign(x[i] < y[i])
		}
	}
	return 0
}

// sign returns -1 if less is true, and 1 otherwise.
func sign(less bool) int {
	if less {
		return -1
	}
	return 1
}

// add returns x + y.
func add(x, y []uint32) []uint32 {
	n := max(len(x), len(y))
	z := make([]uint32, n+1)
	var carry uint32
	for i := range n {
		z[i], carry = bits.Add32(at(x, i), at(y, i), carry)
	}
	z[n] = carry
	return trim(z)
}

// subtract returns x - y, where x is not less than y.
func subtract(x, y []uint32) []uint32 {
	z := make([]uint32, len(x))
	var borrow uint32
	for i := range len(x) {
		z[i], borrow = bits.Sub32(x[i], at(y, i), borrow)
	}
	return trim(z)
}

// multiply returns x * y.
func multiply(x, y []uint32) []uint32 {
	z := make([]uint32, len(x)+len(y))
	for i, d := range x {
		z[i+len(y)] = addTimes(z[i:i+len(y):i+len(y)], y, d)
	}
	return trim(z)
}

// addTimes adds k * y to z, which has as many digits as y, and returns the carry.
func addTimes(z, y []uint32, k uint32) uint32 {
	var carry uint64
	for i, d := range y {
		// The greatest value, (2^32 - 1)^2 + 2 * (2^32 - 1), is 2^64 - 1.
		t := uint64(d)*uint64(k) + uint64(z[i]) + carry
		z[i], carry = uint32(t), t>>32
	}
	return uint32(carry)
}

// shiftLeft returns x * 2^n, with a digit more than x, for n less than 32.
func shiftLeft(x []uint32, n int) []uint32 {
	z := make([]uint32, len(x)+1)
	var low uint32
	for i, d := range x {
		z[i] = d<<n | low
		low = d >> (32 - n)
	}
	z[len(x)] = low
	return z
}

// shiftRight returns the integer part of x / 2^n, for n less than 32.
func shiftRight(x []uint32, n int) []uint32 {
	z := make([]uint32, len(x))
	for i := range len(x) {
		z[i] = x[i]>>n | at(x, i+1)<<(32-n)
	}
	return trim(z)
}

// root returns the integer part of the square root of x.
func root(x []uint32) []uint32 {
	if len(x) == 0 {
		return nil
	}
	// Newton's method falls from a start above the root down to its integer part, and rises or stands still only there.
	n := (length(x) + 1) / 2
	r := make([]uint32, n/32+1)
	r[n/32] = 1 << (n % 32)
	for {
		q, _ := divide(x, r)
		next := shiftRight(add(r, q), 1)
		if compare(next, r) >= 0 {
			return r
		}
		r = next
	}
}

// divide returns the quotient and the remainder of x and y, where y is not 0; both are trimmed.
func divide(x, y []uint32) (q, r []uint32) {
	if compare(x, y) < 0 {
		return nil, slices.Clone(x)
	}
	if len(y) == 1 {
		q = slices.Clone(x)
		d := divideDigit(q, y[0])
		return trim(q), digits(uint64(d))
	}
	// With the highest bit of the divisor set, the estimate of each digit is at most two too great.
	shift := bits.LeadingZeros32(y[len(y)-1])
	u, v := shiftLeft(x, shift), trim(shiftLeft(y, shift))
	q = make([]uint32, len(x)-len(y)+1)
	for i := len(q) - 1; i >= 0; i-- {
		end := i + len(v) + 1
		q[i] = quotientDigit(u[i:end:end], v)
	}
	return trim(q), shiftRight(u[:len(v):len(v)], shift)
}

// divideDigit divides x by d in place and returns the remainder.
func divideDigit(x []uint32, d uint32) uint32 {
	var rest uint32
	for i := len(x) - 1; i >= 0; i-- {
		x[i], rest = bits.Div32(rest, x[i], d)
	}
	return rest
}

// quotientDigit subtracts v as often as it can from u, which has one digit more and is less than 2^32 * v, and returns how often that was. The last digit of u keeps its value, since the difference has no more digits than v.
func quotientDigit(u, v []uint32) uint32 {
	n := len(v)
	first, second := uint64(v[n-1]), uint64(v[n-2])
	top := word(u[n-1:])
	guess, rest := top/first, top%first
	for guess>>32 != 0 || guess*second > rest<<32|uint64(u[n-2]) {
		guess--
		rest += first
		if rest>>32 != 0 {
			break
		}
	}
	if subtractTimes(u[:n:n], v, guess) > uint64(u[n]) {
		guess--
		addTimes(u[:n:n], v, 1)
	}
	return uint32(guess)
}

// subtractTimes subtracts k * v from u, which has as many digits as v, and returns the borrow.
func subtractTimes(u, v []uint32, k uint64) uint64 {
	var borrow uint64
	for i, d := range v {
		t := uint64(d)*k + borrow
		low := uint32(t)
		borrow = t >> 32
		if u[i] < low {
			borrow++
		}
		u[i] -= low
	}
	return borrow
}
