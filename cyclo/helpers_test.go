package cyclo_test

import (
	"math"
	"math/big"
	"math/rand"
	"testing"

	"substation/api"
	"substation/cyclo"
)

// part is the largest coefficient of a number of which Real and Imag are taken.
const part = cyclo.Limit / 4

func big64(n int) *big.Int         { return big.NewInt(int64(n)) }
func plus(x, y *big.Int) *big.Int  { return new(big.Int).Add(x, y) }
func minus(x, y *big.Int) *big.Int { return new(big.Int).Sub(x, y) }
func times(x, y *big.Int) *big.Int { return new(big.Int).Mul(x, y) }

// real3 is the real number a + b*sqrt(3).
type real3 struct{ a, b *big.Int }

func (x real3) plus(y real3) real3  { return real3{plus(x.a, y.a), plus(x.b, y.b)} }
func (x real3) minus(y real3) real3 { return real3{minus(x.a, y.a), minus(x.b, y.b)} }
func (x real3) times(y real3) real3 {
	return real3{plus(times(x.a, y.a), times(big64(3), times(x.b, y.b))), plus(times(x.a, y.b), times(x.b, y.a))}
}

// over returns x / n, which has integer parts.
func (x real3) over(n int) real3 {
	return real3{new(big.Int).Quo(x.a, big64(n)), new(big.Int).Quo(x.b, big64(n))}
}

// plane is twice a number of the ring, as a complex number. The tests compute with it, since its formulas are not those of powers of z.
type plane struct{ re, im real3 }

// planeOf returns twice x, with 2*z = sqrt(3) + i, 2*z^2 = 1 + i*sqrt(3) and 2*z^3 = 2*i.
func planeOf(x api.Cyc) plane {
	two := func(n int) *big.Int { return times(big64(2), big64(n)) }
	return plane{
		real3{plus(two(x[0]), big64(x[2])), big64(x[1])},
		real3{plus(big64(x[1]), two(x[3])), big64(x[2])},
	}
}

// coefficients returns the coefficients of half of p.
func (p plane) coefficients() [4]*big.Int {
	first, last := minus(p.re.a, p.im.b), minus(p.im.a, p.re.b)
	return [4]*big.Int{first.Quo(first, big64(2)), p.re.b, p.im.b, last.Quo(last, big64(2))}
}

func (p plane) plus(q plane) plane  { return plane{p.re.plus(q.re), p.im.plus(q.im)} }
func (p plane) minus(q plane) plane { return plane{p.re.minus(q.re), p.im.minus(q.im)} }
func (p plane) times(q plane) plane {
	re, im := p.re.times(q.re).minus(p.im.times(q.im)), p.re.times(q.im).plus(p.im.times(q.re))
	return plane{re.over(2), im.over(2)}
}

// conj returns the complex conjugate of p.
func (p plane) conj() plane { return plane{p.re, real3{big64(0), big64(0)}.minus(p.im)} }

// norm returns the square of the magnitude of half of p.
func (p plane) norm() real3 { return p.re.times(p.re).plus(p.im.times(p.im)).over(4) }

// turned returns p times the k-th power of z, one after another.
func (p plane) turned(k int) plane {
	for range new(big.Int).Mod(big64(k), big64(12)).Int64() {
		p = p.times(planeOf(api.Cyc{0, 1, 0, 0}))
	}
	return p
}

// inside reports whether numbers are within the limit n.
func inside(n int, numbers ...api.Cyc) bool {
	for _, x := range numbers {
		for _, c := range x {
			if c < -n || c > n {
				return false
			}
		}
	}
	return true
}

// expect checks a number that a function of P3.2 returns against the number that it must be, or against the error.
func expect(t *testing.T, got api.Cyc, e api.Errno, stated bool, want plane, name string, arguments ...any) {
	t.Helper()
	var x api.Cyc
	code := api.ErrArg
	if stated {
		code = api.OK
		for i, c := range want.coefficients() {
			if c.CmpAbs(big64(cyclo.Limit)) > 0 {
				code = api.ErrRange
			}
			x[i] = int(c.Int64())
		}
	}
	if code != api.OK {
		x = api.Cyc{}
	}
	if got != x || e != code {
		t.Errorf("P3.2: %s%v = %v, error %d; want %v, error %d", name, arguments, got, e, x, code)
	}
}

// expectPart checks a number that a function of P3.3 returns against the number that it must be, or against ErrArg.
func expectPart(t *testing.T, got api.Surd, e api.Errno, stated bool, want real3, name string, x api.Cyc) {
	t.Helper()
	part, code := api.Surd{}, api.ErrArg
	if stated {
		part, code = api.Surd{A: int(want.a.Int64()), B: int(want.b.Int64())}, api.OK
	}
	if got != part || e != code {
		t.Errorf("P3.3: %s%v = %v, error %d; want %v, error %d", name, x, got, e, part, code)
	}
}

// edges returns the coefficients at the bounds that the chapter names, beside them, and at the bounds of int.
func edges() []int {
	l := []int{0}
	for _, n := range []int{1, 2, 3, 12, cyclo.Factor - 1, cyclo.Factor, cyclo.Factor + 1, 1 << 32, part - 1, part, part + 1, cyclo.Limit / 2, cyclo.Limit/2 + 1, cyclo.Limit - 1, cyclo.Limit, cyclo.Limit + 1, 2 * cyclo.Limit, 1 << 62, math.MaxInt - 1, math.MaxInt} {
		l = append(l, n, -n)
	}
	return append(l, math.MinInt)
}

// single returns the number with the coefficient c at i and others elsewhere.
func single(i, c, others int) api.Cyc {
	x := api.Cyc{others, others, others, others}
	x[i] = c
	return x
}

// numbers returns numbers with every edge as every coefficient, beside small and great others.
func numbers() []api.Cyc {
	var l []api.Cyc
	for _, c := range edges() {
		for _, others := range []int{0, 1, cyclo.Factor, -cyclo.Factor, -part, cyclo.Limit, -cyclo.Limit} {
			for i := range 4 {
				l = append(l, single(i, c, others))
			}
		}
	}
	return l
}

// corners returns all numbers with the coefficients -n, 0 and n.
func corners(n int) []api.Cyc {
	var l []api.Cyc
	for k := range 81 {
		l = append(l, api.Cyc{k%3*n - n, k/3%3*n - n, k/9%3*n - n, k/27*n - n})
	}
	return l
}

// random returns an int of any size up to n, n included.
func random(r *rand.Rand, n int) int {
	switch r.Intn(12) {
	case 0:
		return 0
	case 1:
		return n
	case 2:
		return -n
	}
	m := int(r.Uint64()>>1) >> r.Intn(63) % (n + 1)
	if r.Intn(2) == 0 {
		return -m
	}
	return m
}

// randomNumber returns a number within n.
func randomNumber(r *rand.Rand, n int) api.Cyc {
	return api.Cyc{random(r, n), random(r, n), random(r, n), random(r, n)}
}
