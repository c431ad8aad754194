package cyclo

import "substation/api"

// bound is a limit of coefficients.
type bound int

// clamp returns the integer from -b to b that is nearest to c.
func (b bound) clamp(c int) int { return min(max(c, -int(b)), int(b)) }

// factor is an integer by which coefficients are multiplied.
type factor int

// times returns k * c.
func (k factor) times(c int) int { return int(k) * c }

// each returns x with f applied to each coefficient.
func each(x api.Cyc, f func(c int) int) api.Cyc {
	for i, c := range x {
		x[i] = f(c)
	}
	return x
}

// within reports whether numbers are within the limit n: clamping changes only those that are not.
func within(n int, numbers ...api.Cyc) bool {
	for _, x := range numbers {
		if x != each(x, bound(n).clamp) {
			return false
		}
	}
	return true
}

// limited returns x as a result, which has to be within Limit.
func limited(x api.Cyc) (api.Cyc, api.Errno) {
	if !within(Limit, x) {
		return api.Cyc{}, api.ErrRange
	}
	return x, api.OK
}

// negative returns -x.
func negative(x api.Cyc) api.Cyc { return each(x, factor(-1).times) }

// sum returns x + y.
func sum(x, y api.Cyc) api.Cyc {
	for i, c := range y {
		x[i] += c
	}
	return x
}

// product returns x * y. Nothing overflows if both are within Factor, or if x is within Limit and y is a power of z, which has at most two coefficients, each of them 1 or -1.
func product(x, y api.Cyc) api.Cyc {
	var c [7]int
	for i, a := range x {
		for k, b := range y {
			c[i+k] += a * b
		}
	}
	// The powers from 4 to 6 are z^2 - 1, z^3 - z and -1.
	return api.Cyc{c[0] - c[4] - c[6], c[1] - c[5], c[2] + c[4], c[3] + c[5]}
}
