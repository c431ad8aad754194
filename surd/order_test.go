package surd_test

import (
	"math"
	"math/big"
	"math/rand"
	"strconv"
	"testing"

	"substation/api"
	"substation/surd"
)

// checkSign checks Sign.
func checkSign(t *testing.T, x api.Surd) {
	t.Helper()
	if got, want := surd.Sign(x), value(big64(x.A), big64(x.B)).Sign(); got != want {
		t.Errorf("P2.1: Sign%s = %d, not %d", text(x), got, want)
	}
}

// checkCompare checks Compare.
func checkCompare(t *testing.T, x, y api.Surd) {
	t.Helper()
	c, e := surd.Compare(x, y)
	expectInt(t, "P2.3: Compare"+text(x)+text(y), c, e, inside(surd.Limit, x, y), func() int {
		return value(big64(x.A), big64(x.B)).Cmp(value(big64(y.A), big64(y.B)))
	})
}

// checkVersus checks Versus.
func checkVersus(t *testing.T, x api.Surd, j int, y api.Surd, k int) {
	t.Helper()
	c, e := surd.Versus(x, j, y, k)
	stated := inside(surd.Limit, x, y) && inside(multiple, number(j, k))
	expectInt(t, "P2.3: Versus"+text(x)+text(number(j, k))+text(y), c, e, stated, func() int {
		return value(times(j, x.A), times(j, x.B)).Cmp(value(times(k, y.A), times(k, y.B)))
	})
}

// checkParts checks Floor and Round.
func checkParts(t *testing.T, x api.Surd, d int) {
	t.Helper()
	names := text(x) + " by " + strconv.Itoa(d)
	n, e := surd.Floor(x, d)
	expectInt(t, "P2.3: Floor"+names, n, e, inside(surd.Limit, x) && d >= 1 && d <= surd.Limit, func() int {
		return floorOf(quotient(x, d))
	})
	n, e = surd.Round(x, d)
	expectInt(t, "P2.3: Round"+names, n, e, inside(rounded, x) && d >= 1 && d <= rounded, func() int {
		return floorOf(new(big.Float).Add(quotient(x, d), big.NewFloat(0.5)))
	})
}

func TestSign(t *testing.T) {
	for _, x := range numbers() {
		checkSign(t, x)
	}
	for _, x := range ties(math.MaxInt) {
		for d := range 3 {
			checkSign(t, number(x.A+d-1, x.B))
			checkSign(t, number(x.A, x.B+d-1))
		}
	}
	r := rand.New(rand.NewSource(11))
	for range 20000 {
		checkSign(t, randomNumber(r, math.MaxInt-1))
		checkSign(t, number(int(r.Uint64()), int(r.Uint64())))
	}
}

func TestSignExamples(t *testing.T) {
	for x, want := range map[api.Surd]int{
		number(0, 0):                              0,
		number(7, -4):                             1,
		number(-7, 4):                             -1,
		number(5, -3):                             -1,
		number(-5, 3):                             1,
		number(1, 1):                              1,
		number(-1, -1):                            -1,
		number(0, -1):                             -1,
		number(-1, 0):                             -1,
		number(math.MinInt, 0):                    -1,
		number(0, math.MinInt):                    -1,
		number(math.MinInt, math.MinInt):          -1,
		number(math.MinInt, math.MaxInt):          1,
		number(math.MaxInt, math.MinInt):          -1,
		number(math.MaxInt, math.MaxInt):          1,
		number(math.MaxInt, -5325116328314171699): 1,
		number(math.MaxInt, -5325116328314171700): -1,
		number(math.MinInt, 5325116328314171700):  -1,
		number(math.MinInt, 5325116328314171701):  1,
	} {
		if got := surd.Sign(x); got != want {
			t.Errorf("P2.1: Sign(%v) = %d, not %d", x, got, want)
		}
	}
}

func TestCompare(t *testing.T) {
	l := append(ties(surd.Limit)[80:], number(0, 0), number(1, 0), number(0, 1), number(2, 0), number(surd.Limit, -surd.Limit), number(-surd.Limit, surd.Limit), number(surd.Limit, surd.Limit), number(-surd.Limit, -surd.Limit), number(surd.Limit+1, 0), number(0, -surd.Limit-1), number(math.MinInt, 0), number(0, math.MaxInt), number(math.MinInt, math.MinInt))
	for _, x := range l {
		for _, y := range l {
			checkCompare(t, x, y)
		}
	}
	for _, x := range numbers() {
		checkCompare(t, x, number(0, 0))
		checkCompare(t, number(0, 0), x)
		checkCompare(t, x, x)
		checkCompare(t, x, number(surd.Limit, -surd.Limit))
	}
	r := rand.New(rand.NewSource(12))
	for range 20000 {
		x, y := randomNumber(r, surd.Limit), randomNumber(r, surd.Limit)
		checkCompare(t, x, y)
		checkCompare(t, x, number(x.A, y.B))
		checkCompare(t, x, number(y.A, x.B))
	}
	// The differences of these are ties.
	for _, d := range ties(surd.Limit) {
		y := randomNumber(r, surd.Limit)
		if x := number(y.A+d.A, y.B+d.B); inside(surd.Limit, x) {
			checkCompare(t, x, y)
		}
	}
}

func TestVersus(t *testing.T) {
	multiples := []int{0, 1, -1, 3, multiple, -multiple, multiple - 1, multiple + 1, -multiple - 1, math.MaxInt, math.MinInt}
	for _, j := range multiples {
		for _, k := range multiples {
			for _, x := range []api.Surd{number(0, 0), number(1, 0), number(7, -4), number(surd.Limit, surd.Limit), number(surd.Limit, -surd.Limit), number(-surd.Limit, surd.Limit), number(surd.Limit+1, 0), number(math.MinInt, 1)} {
				checkVersus(t, x, j, x, k)
				checkVersus(t, x, j, number(-x.A, x.B), k)
				checkVersus(t, x, j, number(0, 0), k)
				checkVersus(t, number(0, 0), j, x, k)
				checkVersus(t, x, j, number(surd.Limit-1, -surd.Limit), k)
			}
		}
	}
	for _, x := range numbers() {
		checkVersus(t, x, multiple, number(-3, surd.Limit), -multiple)
		checkVersus(t, number(surd.Limit, 3), -multiple, x, 5)
	}
	r := rand.New(rand.NewSource(13))
	for range 20000 {
		checkVersus(t, randomNumber(r, surd.Limit), random(r, multiple), randomNumber(r, surd.Limit), random(r, multiple))
	}
}

// TestVersusTies looks at numbers whose multiples differ by a tie of up to 88 bits, which 64 bits and floats cannot tell from 0.
func TestVersusTies(t *testing.T) {
	for _, p := range chain(88) {
		for i := range 4 {
			k := multiple - 1 - 2*i
			for _, sign := range []int{1, -1} {
				x, y := split(new(big.Int).Mul(p[0], big64(sign)), k)
				z, w := split(new(big.Int).Mul(p[1], big64(-sign)), k)
				checkVersus(t, number(x, z), k+1, number(y, w), k)
				checkVersus(t, number(x+1, z), k+1, number(y, w), k)
				checkVersus(t, number(x, z), -k-1, number(-y, -w), k)
				checkVersus(t, number(y, w), k, number(x, z), k+1)
			}
		}
	}
}

// split returns small x and y with (k + 1) * x - k * y = p.
func split(p *big.Int, k int) (x, y int) {
	rest, low := new(big.Int).DivMod(p, big64(k), new(big.Int))
	x = int(low.Int64())
	return x, x - int(rest.Int64())
}

func TestFloorAndRound(t *testing.T) {
	for _, x := range numbers() {
		for _, d := range edges() {
			checkParts(t, x, d)
		}
	}
	r := rand.New(rand.NewSource(14))
	for range 20000 {
		x, d := randomNumber(r, surd.Limit), random(r, surd.Limit)
		checkParts(t, x, d)
		checkParts(t, number(x.A/4, x.B/4), d/4)
		checkParts(t, x, 1+r.Intn(20))
	}
}

// TestBesideIntegers looks at numbers whose quotients are just above or below an integer, or half of one.
func TestBesideIntegers(t *testing.T) {
	r := rand.New(rand.NewSource(15))
	for _, x := range ties(surd.Limit) {
		for d := range 3 {
			checkParts(t, number(x.A+d-1, x.B), 1)
			checkParts(t, number(2*x.A+d-1, 2*x.B), 2)
		}
		for range 20 {
			d, n := 1+r.Intn(1<<20), r.Intn(1<<30)-1<<29
			checkParts(t, number(x.A+n*d, x.B), d)
			checkParts(t, number(x.A+(2*n+1)*d, x.B), 2*d)
		}
	}
	for range 2000 {
		d, n := 1+r.Intn(1<<30), r.Intn(1<<28)-1<<27
		for i := range 3 {
			checkParts(t, number(n*d+i-1, 0), d)
			checkParts(t, number((2*n+1)*d+i-1, 0), 2*d)
		}
	}
}
