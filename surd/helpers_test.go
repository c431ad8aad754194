package surd_test

import (
	"math"
	"math/big"
	"math/rand"
	"strconv"
	"testing"

	"substation/api"
	"substation/surd"
)

// precision is the number of bits with which the tests compute sqrt(3). A number that is not 0 is never so small, compared with its terms, that these bits cannot tell its sign.
const precision = 600

// Bounds that the chapter gives to single functions.
const (
	multiple = 1 << 30 // of the multiples of Versus
	rounded  = 1 << 58 // of the numbers and divisors of Round
)

// number returns A + B*sqrt(3).
func number(a, b int) api.Surd { return api.Surd{A: a, B: b} }

// text returns x for messages.
func text(x api.Surd) string { return "(" + strconv.Itoa(x.A) + ", " + strconv.Itoa(x.B) + ")" }

// big64 returns n.
func big64(n int) *big.Int { return big.NewInt(int64(n)) }

// times returns j * n.
func times(j, n int) *big.Int { return new(big.Int).Mul(big64(j), big64(n)) }

// value returns a + b*sqrt(3), with so many bits that its sign and its integer part are right.
func value(a, b *big.Int) *big.Float {
	v := new(big.Float).SetPrec(precision).SetInt64(3)
	v.Sqrt(v)
	v.Mul(v, new(big.Float).SetPrec(precision).SetInt(b))
	return v.Add(v, new(big.Float).SetPrec(precision).SetInt(a))
}

// quotient returns x / d.
func quotient(x api.Surd, d int) *big.Float {
	v := value(big64(x.A), big64(x.B))
	return v.Quo(v, new(big.Float).SetPrec(precision).SetInt64(int64(d)))
}

// floorOf returns the greatest integer that is not above v.
func floorOf(v *big.Float) int {
	n, _ := v.Int(nil)
	if new(big.Float).SetPrec(precision).SetInt(n).Cmp(v) > 0 {
		n.Sub(n, big.NewInt(1))
	}
	return int(n.Int64())
}

// inside reports whether numbers are within the limit n.
func inside(n int, numbers ...api.Surd) bool {
	for _, x := range numbers {
		if x.A < -n || x.A > n || x.B < -n || x.B > n {
			return false
		}
	}
	return true
}

// edges returns the parts at the bounds that the chapter names, beside them, and at the bounds of int.
func edges() []int {
	l := []int{0}
	for _, n := range []int{1, 2, 3, 7, multiple, multiple + 1, surd.Factor - 1, surd.Factor, surd.Factor + 1, rounded - 1, rounded, rounded + 1, surd.Limit/2 + 1, surd.Limit - 1, surd.Limit, surd.Limit + 1, 1 << 62, math.MaxInt - 1, math.MaxInt} {
		l = append(l, n, -n)
	}
	return append(l, math.MinInt)
}

// numbers returns all numbers whose parts are edges.
func numbers() []api.Surd {
	var l []api.Surd
	for _, a := range edges() {
		for _, b := range edges() {
			l = append(l, number(a, b))
		}
	}
	return l
}

// chain returns pairs of terms, up to a number of bits, whose quotients are as near to sqrt(3) as any of that size.
func chain(bits int) [][2]*big.Int {
	var l [][2]*big.Int
	a, b := big.NewInt(1), big.NewInt(1)
	for a.BitLen() <= bits {
		l = append(l, [2]*big.Int{a, b})
		// Each pair is the last one times 1 + sqrt(3), with a common factor 2 removed.
		next := new(big.Int).Add(a, new(big.Int).Mul(big.NewInt(3), b))
		a, b = next, new(big.Int).Add(a, b)
		if a.Bit(0) == 0 && b.Bit(0) == 0 {
			a, b = new(big.Int).Rsh(a, 1), new(big.Int).Rsh(b, 1)
		}
	}
	return l
}

// ties returns numbers within n that are as near to 0 as any with parts of that size, with both signs.
func ties(n int) []api.Surd {
	var l []api.Surd
	for _, p := range chain(63) {
		if a, b := int(p[0].Int64()), int(p[1].Int64()); a <= n {
			l = append(l, number(a, -b), number(-a, b))
		}
	}
	return l
}

// random returns an int of any size up to n, n included.
func random(r *rand.Rand, n int) int {
	switch r.Intn(12) {
	case 0:
		return 0
	case 1:
		return n
	case 2:
		return -n
	}
	m := int(r.Uint64()>>1) >> r.Intn(63) % (n + 1)
	if r.Intn(2) == 0 {
		return -m
	}
	return m
}

// randomNumber returns a number within n.
func randomNumber(r *rand.Rand, n int) api.Surd { return number(random(r, n), random(r, n)) }

// expect checks a number that a function of P2.2 returns against the parts that it must have, or against the error.
func expect(t *testing.T, name string, got api.Surd, e api.Errno, stated bool, a, b *big.Int) {
	t.Helper()
	want, code := api.Surd{}, api.ErrArg
	if stated {
		limit := big64(surd.Limit)
		code = api.ErrRange
		if a.CmpAbs(limit) <= 0 && b.CmpAbs(limit) <= 0 {
			want, code = number(int(a.Int64()), int(b.Int64())), api.OK
		}
	}
	if got != want || e != code {
		t.Errorf("%s = %v, error %d; want %v, error %d", name, got, e, want, code)
	}
}

// expectInt checks an integer that a function returns against the one that it must be, or against ErrArg.
func expectInt(t *testing.T, name string, got int, e api.Errno, stated bool, want func() int) {
	t.Helper()
	n, code := 0, api.ErrArg
	if stated {
		n, code = want(), api.OK
	}
	if got != n || e != code {
		t.Errorf("%s = %d, error %d; want %d, error %d", name, got, e, n, code)
	}
}
