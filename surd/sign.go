package surd

import "math/bits"

// root is sqrt(3) * 2^63, rounded down.
const root = 0xddb3d742c265539d

// part is one of the integers P and Q of a number P + Q*sqrt(3).
type part interface {
	sign() int
	square() natural
}

// signOf returns the sign of p + q*sqrt(3).
func signOf[T part](p, q T) int {
	// The term with the greater magnitude decides. The magnitudes are equal only if both are 0, since sqrt(3) is irrational.
	if greater(p.square(), triple(q.square())) {
		return p.sign()
	}
	return q.sign()
}

// narrow is a part of 64 bits, as numbers have it.
type narrow int

func (p narrow) sign() int {
	switch {
	case p < 0:
		return -1
	case p > 0:
		return 1
	}
	return 0
}

func (p narrow) square() natural {
	m := magnitude(int(p))
	high, low := bits.Mul64(m, m)
	return natural{low, high}
}

// wide is a part of 128 bits in two's complement, for the differences of products.
type wide struct{ high, low uint64 }

// product returns a * b.
func product(a, b int) wide {
	high, low := bits.Mul64(magnitude(a), magnitude(b))
	p := wide{high, low}
	if (a < 0) != (b < 0) {
		p = wide{}.minus(p)
	}
	return p
}

// minus returns p - q.
func (p wide) minus(q wide) wide {
	low, borrow := bits.Sub64(p.low, q.low, 0)
	high, _ := bits.Sub64(p.high, q.high, borrow)
	return wide{high, low}
}

func (p wide) sign() int {
	switch {
	case p.high>>63 != 0:
		return -1
	case p.high != 0 || p.low != 0:
		return 1
	}
	return 0
}

func (p wide) square() natural {
	if p.sign() < 0 {
		p = wide{}.minus(p)
	}
	digits := [2]uint64{p.low, p.high}
	var z natural
	for i, d := range digits {
		var carry uint64
		for k, e := range digits {
			carry, z[i+k] = multiplyAdd(d, e, z[i+k], carry)
		}
		z[i+2] = carry
	}
	return z
}

// natural is an integer of 256 bits that is not negative, the least significant digit first: it has room for three times the square of a part.
type natural [4]uint64

// triple returns 3 * x.
func triple(x natural) natural {
	var z natural
	var carry uint64
	for i, d := range x {
		carry, z[i] = multiplyAdd(d, 3, carry, 0)
	}
	return z
}

// greater reports whether x is greater than y.
func greater(x, y natural) bool {
	i := len(x) - 1
	for i > 0 && x[i] == y[i] {
		i--
	}
	return x[i] > y[i]
}

// multiplyAdd returns the two digits of d*e + s + t, which never has more than two.
func multiplyAdd(d, e, s, t uint64) (high, low uint64) {
	high, low = bits.Mul64(d, e)
	low, carry := bits.Add64(low, s, 0)
	high += carry
	low, carry = bits.Add64(low, t, 0)
	return high + carry, low
}

// magnitude returns |n|, also for the least int.
func magnitude(n int) uint64 {
	if n < 0 {
		return -uint64(n)
	}
	return uint64(n)
}

// estimate returns an integer beside n*sqrt(3), at most two away from its integer part, for an n within Limit.
func estimate(n int) int {
	high, low := bits.Mul64(magnitude(n), root)
	e := int(high<<1 | low>>63)
	if n < 0 {
		return -e
	}
	return e
}
