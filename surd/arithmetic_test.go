package surd_test

import (
	"math"
	"math/big"
	"math/rand"
	"strconv"
	"testing"

	"substation/api"
	"substation/surd"
)

// checkOne checks the functions of P2.2 with one number.
func checkOne(t *testing.T, x api.Surd) {
	t.Helper()
	z, e := surd.Conj(x)
	expect(t, "P2.2: Conj"+text(x), z, e, inside(surd.Limit, x), big64(x.A), new(big.Int).Neg(big64(x.B)))
	n, e := surd.Norm(x)
	expectInt(t, "P2.2: Norm"+text(x), n, e, inside(surd.Factor, x), func() int {
		norm := times(x.A, x.A)
		return int(norm.Sub(norm, new(big.Int).Mul(big64(3), times(x.B, x.B))).Int64())
	})
}

// checkTwo checks the functions of P2.2 with two numbers.
func checkTwo(t *testing.T, x, y api.Surd) {
	t.Helper()
	a, b, c, d := big64(x.A), big64(x.B), big64(y.A), big64(y.B)
	names := text(x) + text(y)
	z, e := surd.Add(x, y)
	expect(t, "P2.2: Add"+names, z, e, inside(surd.Limit, x, y), new(big.Int).Add(a, c), new(big.Int).Add(b, d))
	z, e = surd.Sub(x, y)
	expect(t, "P2.2: Sub"+names, z, e, inside(surd.Limit, x, y), new(big.Int).Sub(a, c), new(big.Int).Sub(b, d))
	z, e = surd.Mul(x, y)
	first := new(big.Int).Mul(big64(3), times(x.B, y.B))
	second := times(x.A, y.B)
	expect(t, "P2.2: Mul"+names, z, e, inside(surd.Factor, x, y), first.Add(first, times(x.A, y.A)), second.Add(second, times(x.B, y.A)))
}

// checkScale checks Scale.
func checkScale(t *testing.T, x api.Surd, k int) {
	t.Helper()
	z, e := surd.Scale(x, k)
	stated := inside(surd.Limit, x) && inside(surd.Limit, number(k, 0))
	expect(t, "P2.2: Scale"+text(x)+" by "+strconv.Itoa(k), z, e, stated, times(k, x.A), times(k, x.B))
}

func TestLimits(t *testing.T) {
	if surd.Limit != 1152921504606846976 || surd.Factor != 268435456 {
		t.Errorf("P2.2: Limit is %d, Factor is %d", surd.Limit, surd.Factor)
	}
}

func TestArithmeticEdges(t *testing.T) {
	l := numbers()
	for _, x := range l {
		checkOne(t, x)
		for _, k := range edges() {
			checkScale(t, x, k)
		}
	}
	// Each pair of edges occurs in each place, with a few values in the others.
	for _, a := range edges() {
		for _, b := range edges() {
			for _, c := range []int{0, 1, -surd.Factor, surd.Factor, surd.Limit, -surd.Limit} {
				checkTwo(t, number(a, c), number(b, -c))
				checkTwo(t, number(c, a), number(-c, b))
				checkTwo(t, number(a, c), number(c, b))
				checkTwo(t, number(c, a), number(b, c))
				checkTwo(t, number(a, b), number(c, c))
				checkTwo(t, number(c, c), number(a, b))
			}
		}
	}
}

func TestArithmeticRandom(t *testing.T) {
	r := rand.New(rand.NewSource(1))
	for range 20000 {
		x, y := randomNumber(r, surd.Limit), randomNumber(r, surd.Limit)
		checkOne(t, x)
		checkTwo(t, x, y)
		checkScale(t, x, y.A)
		x, y = randomNumber(r, surd.Factor), randomNumber(r, surd.Factor)
		checkOne(t, x)
		checkTwo(t, x, y)
		checkScale(t, x, y.A)
	}
}

// TestScaleBounds looks at products that just are within Limit, and just are not, and at those that wrap around to small ones.
func TestScaleBounds(t *testing.T) {
	for _, c := range []struct {
		x    api.Surd
		k    int
		want api.Surd
		e    api.Errno
	}{
		{number(1<<30, -1<<30), 1 << 30, number(surd.Limit, -surd.Limit), api.OK},
		{number(1<<30, -1<<30), -1 << 30, number(-surd.Limit, surd.Limit), api.OK},
		{number(1<<30+1, 0), 1 << 30, api.Surd{}, api.ErrRange},
		{number(0, 1<<30+1), -1 << 30, api.Surd{}, api.ErrRange},
		{number(surd.Limit, surd.Limit), 1, number(surd.Limit, surd.Limit), api.OK},
		{number(surd.Limit, surd.Limit), -1, number(-surd.Limit, -surd.Limit), api.OK},
		{number(surd.Limit, 0), 2, api.Surd{}, api.ErrRange},
		{number(surd.Limit, surd.Limit), 0, api.Surd{}, api.OK},
		{number(1, -1), surd.Limit, number(surd.Limit, -surd.Limit), api.OK},
		{number(0, 2), surd.Limit, api.Surd{}, api.ErrRange},
		{number(384307168202282325, 0), 3, number(1152921504606846975, 0), api.OK},
		{number(384307168202282326, 0), 3, api.Surd{}, api.ErrRange},
		{number(1<<32, 1), 1 << 32, api.Surd{}, api.ErrRange},
		{number(1, -1<<59), 1 << 5, api.Surd{}, api.ErrRange},
		{number(surd.Limit, surd.Limit), surd.Limit, api.Surd{}, api.ErrRange},
		{number(surd.Limit, surd.Limit), surd.Limit + 1, api.Surd{}, api.ErrArg},
		{number(0, 0), surd.Limit + 1, api.Surd{}, api.ErrArg},
		{number(0, 0), math.MinInt, api.Surd{}, api.ErrArg},
		{number(surd.Limit+1, 0), 0, api.Surd{}, api.ErrArg},
		{number(0, math.MinInt), 0, api.Surd{}, api.ErrArg},
	} {
		if z, e := surd.Scale(c.x, c.k); z != c.want || e != c.e {
			t.Errorf("P2.2: Scale(%v, %d) = %v, %d; want %v, %d", c.x, c.k, z, e, c.want, c.e)
		}
	}
}

// TestErrorOrder looks at arguments that are not as stated while the result would not be within Limit either.
func TestErrorOrder(t *testing.T) {
	good, bad := number(surd.Limit, surd.Limit), number(surd.Limit+1, 0)
	for _, c := range []struct {
		name string
		x, y api.Surd
		call func(x, y api.Surd) (api.Surd, api.Errno)
		want api.Errno
	}{
		{"Add", good, good, surd.Add, api.ErrRange},
		{"Add", good, bad, surd.Add, api.ErrArg},
		{"Add", bad, good, surd.Add, api.ErrArg},
		{"Sub", good, number(0, -1), surd.Sub, api.ErrRange},
		{"Sub", number(0, -1), bad, surd.Sub, api.ErrArg},
		{"Sub", bad, number(0, -1), surd.Sub, api.ErrArg},
		{"Mul", good, good, surd.Mul, api.ErrArg},
		{"Mul", number(0, 0), number(0, surd.Factor+1), surd.Mul, api.ErrArg},
		{"Mul", number(-surd.Factor-1, 0), number(0, 0), surd.Mul, api.ErrArg},
	} {
		if z, e := c.call(c.x, c.y); z != (api.Surd{}) || e != c.want {
			t.Errorf("P2.2: %s(%v, %v) = %v, %d; want error %d", c.name, c.x, c.y, z, e, c.want)
		}
	}
}
