package integer

import "slices"

// Lehmer's algorithm does most divisions of Euclid's with the leading bits only.
const (
	leading   = 62      // leading bits that are looked at
	cofactors = 1 << 30 // bound of the factors, so that their products with two digits stay within 64 bits
)

// steps stands for some steps of Euclid's algorithm: they turn u and v into a*u + b*v and c*u + d*v.
type steps struct{ a, b, c, d int64 }

// gcd returns the greatest common divisor of x and y.
func gcd(x, y []uint32) []uint32 {
	u, v := x, y
	if compare(u, v) < 0 {
		u, v = v, u
	}
	for len(v) > 2 {
		s := leadingSteps(u, v)
		if s.b != 0 {
			u, v = combine(u, v, s.a, s.b), combine(u, v, s.c, s.d)
			continue
		}
		_, rest := divide(u, v)
		u, v = v, rest
	}
	if len(v) == 0 {
		return slices.Clone(u)
	}
	_, rest := divide(u, v)
	return digits(gcdWord(word(v), word(rest)))
}

// gcdWord returns the greatest common divisor of x and y.
func gcdWord(x, y uint64) uint64 {
	for y != 0 {
		x, y = y, x%y
	}
	return x
}

// leadingSteps returns the steps for u and v, u not less than v, that their leading bits decide; b is 0 if they decide none.
func leadingSteps(u, v []uint32) steps {
	shift := length(u) - leading
	x, y := window(u, shift), window(v, shift)
	s := steps{a: 1, d: 1}
	// The quotient of the complete numbers is between those of (x + a, y + c) and (x + b, y + d).
	for y+s.c > 0 && y+s.d > 0 {
		q := (x + s.a) / (y + s.c)
		if q != (x+s.b)/(y+s.d) {
			break
		}
		next := steps{s.c, s.d, s.a - q*s.c, s.b - q*s.d}
		if max(next.c, -next.c, next.d, -next.d) >= cofactors {
			break
		}
		s = next
		x, y = y, x-q*y
	}
	return s
}

// window returns the bits of d from bit shift on, of which d has at most 62.
func window(d []uint32, shift int) int64 {
	i, n := shift/32, shift%32
	low := uint64(at(d, i+1))<<32 | uint64(at(d, i))
	return int64(low>>n | uint64(at(d, i+2))<<(64-n))
}

// combine returns a*u + b*v, where the result is not negative and has at most as many digits as u, and a and b do not have the same sign.
func combine(u, v []uint32, a, b int64) []uint32 {
	z := make([]uint32, len(u))
	var carry int64
	for i := range len(u) {
		t := a*int64(u[i]) + b*int64(at(v, i)) + carry
		z[i], carry = uint32(t), t>>32
	}
	return trim(z)
}
