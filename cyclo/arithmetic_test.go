package cyclo_test

import (
	"math"
	"math/rand"
	"testing"

	"substation/api"
	"substation/cyclo"
)

// checkTwo checks the functions with two numbers.
func checkTwo(t *testing.T, x, y api.Cyc) {
	t.Helper()
	p, q := planeOf(x), planeOf(y)
	z, e := cyclo.Add(x, y)
	expect(t, z, e, inside(cyclo.Limit, x, y), p.plus(q), "Add", x, y)
	z, e = cyclo.Sub(x, y)
	expect(t, z, e, inside(cyclo.Limit, x, y), p.minus(q), "Sub", x, y)
	z, e = cyclo.Mul(x, y)
	expect(t, z, e, inside(cyclo.Factor, x, y), p.times(q), "Mul", x, y)
}

// checkScale checks Scale.
func checkScale(t *testing.T, x api.Cyc, k int) {
	t.Helper()
	factor := api.Cyc{k, 0, 0, 0}
	z, e := cyclo.Scale(x, k)
	expect(t, z, e, inside(cyclo.Limit, x, factor), planeOf(x).times(planeOf(factor)), "Scale", x, k)
}

// checkTurns checks Turn for some powers, and Conj.
func checkTurns(t *testing.T, x api.Cyc, powers ...int) {
	t.Helper()
	p := planeOf(x)
	z, e := cyclo.Conj(x)
	expect(t, z, e, inside(cyclo.Limit, x), p.conj(), "Conj", x)
	for _, k := range powers {
		z, e = cyclo.Turn(x, k)
		expect(t, z, e, inside(cyclo.Limit, x), p.turned(k), "Turn", x, k)
	}
}

// oneTurn returns the powers from 0 to 11.
func oneTurn() []int { return []int{0, 1, 2, 3, 4, 5, 6, 7, 8, 9, 10, 11} }

func TestLimits(t *testing.T) {
	if cyclo.Limit != 576460752303423488 || cyclo.Factor != 268435456 {
		t.Errorf("P3.2: Limit is %d, Factor is %d", cyclo.Limit, cyclo.Factor)
	}
}

func TestArithmeticEdges(t *testing.T) {
	partners := []api.Cyc{{}, {1, 1, 1, 1}, {3, -5, 7, -2}, {cyclo.Factor, cyclo.Factor, -cyclo.Factor, -cyclo.Factor}, {-cyclo.Limit, cyclo.Limit, cyclo.Limit, -cyclo.Limit}, {0, 0, 0, cyclo.Limit + 1}, {math.MinInt, 0, 0, 0}}
	for _, x := range numbers() {
		checkTurns(t, x, oneTurn()...)
		for _, y := range partners {
			checkTwo(t, x, y)
			checkTwo(t, y, x)
		}
		for _, k := range edges() {
			checkScale(t, x, k)
		}
	}
}

// TestCorners looks at the greatest coefficients with all signs, with which sums, differences and products are the greatest.
func TestCorners(t *testing.T) {
	for _, n := range []int{1, cyclo.Factor, cyclo.Limit / 2, cyclo.Limit} {
		for _, x := range corners(n) {
			checkTurns(t, x, oneTurn()...)
			for _, k := range []int{0, 1, -1, 2, -2, cyclo.Factor, -cyclo.Limit} {
				checkScale(t, x, k)
			}
			for _, y := range corners(n) {
				checkTwo(t, x, y)
			}
		}
	}
}

func TestArithmeticRandom(t *testing.T) {
	r := rand.New(rand.NewSource(1))
	for range 5000 {
		for _, n := range []int{cyclo.Limit, cyclo.Limit / 2, cyclo.Factor, 100} {
			x, y, k := randomNumber(r, n), randomNumber(r, n), int(r.Uint64())
			checkTwo(t, x, y)
			checkScale(t, x, y[0])
			checkTurns(t, x, k, r.Intn(25)-12)
		}
	}
}

// TestTurnByAnyInt looks at powers beyond 12, at negative ones and at those at the bounds of int.
func TestTurnByAnyInt(t *testing.T) {
	powers := edges()
	for k := -30; k <= 30; k++ {
		powers = append(powers, k, math.MinInt+30+k, math.MaxInt-30+k)
	}
	checkTurns(t, api.Cyc{}, powers...)
	checkTurns(t, api.Cyc{2, 3, 5, 11}, powers...)
	checkTurns(t, api.Cyc{cyclo.Limit, 0, 0, -cyclo.Limit}, powers...)
	checkTurns(t, api.Cyc{cyclo.Limit, cyclo.Limit, cyclo.Limit, cyclo.Limit}, powers...)
	checkTurns(t, api.Cyc{0, cyclo.Limit + 1, 0, 0}, powers...)
}

// TestSumsAtLimit looks at sums of two coefficients that just are within Limit, and just are not: those of Add and Sub, and those of Turn and Conj.
func TestSumsAtLimit(t *testing.T) {
	for _, bound := range []int{cyclo.Limit, -cyclo.Limit} {
		for _, a := range []int{0, bound / 3, bound / 2, bound - 1, bound} {
			for d := -1; d <= 1; d++ {
				b := bound - a + d
				for i := range 4 {
					for _, others := range []int{0, 7, cyclo.Limit / 2} {
						checkTwo(t, single(i, a, others), single(i, b, others))
						checkTwo(t, single(i, a, others), single(i, -b, others))
					}
					for k := range i {
						x := single(i, a, 0)
						x[k] = b
						checkTurns(t, x, oneTurn()...)
						x[k] = -b
						checkTurns(t, x, oneTurn()...)
					}
				}
			}
		}
	}
}

// TestScaleBounds looks at products that just are within Limit, and just are not, and at those that wrap around to small ones.
func TestScaleBounds(t *testing.T) {
	const limit = cyclo.Limit
	for _, c := range []struct {
		x    api.Cyc
		k    int
		want api.Cyc
		e    api.Errno
	}{
		{api.Cyc{1 << 30, -1 << 30, 1, 0}, 1 << 29, api.Cyc{limit, -limit, 1 << 29, 0}, api.OK},
		{api.Cyc{1 << 30, -1 << 30, 1, 0}, -1 << 29, api.Cyc{-limit, limit, -1 << 29, 0}, api.OK},
		{api.Cyc{0, 1<<30 + 1, 0, 0}, 1 << 29, api.Cyc{}, api.ErrRange},
		{api.Cyc{0, 0, -1<<30 - 1, 0}, 1 << 29, api.Cyc{}, api.ErrRange},
		{api.Cyc{0, 0, 0, 1<<30 + 1}, -1 << 29, api.Cyc{}, api.ErrRange},
		{api.Cyc{limit, -limit, limit, -limit}, -1, api.Cyc{-limit, limit, -limit, limit}, api.OK},
		{api.Cyc{limit, limit, limit, limit}, 0, api.Cyc{}, api.OK},
		{api.Cyc{1, -1, 0, 1}, limit, api.Cyc{limit, -limit, 0, limit}, api.OK},
		{api.Cyc{1, -1, 0, 2}, -limit, api.Cyc{}, api.ErrRange},
		{api.Cyc{192153584101141162, 0, 0, 0}, 3, api.Cyc{576460752303423486, 0, 0, 0}, api.OK},
		{api.Cyc{192153584101141163, 0, 0, 0}, 3, api.Cyc{}, api.ErrRange},
		{api.Cyc{1 << 32, 1, 0, 0}, 1 << 32, api.Cyc{}, api.ErrRange},
		{api.Cyc{1, 0, 0, -1 << 58}, 1 << 6, api.Cyc{}, api.ErrRange},
		{api.Cyc{limit, 0, limit, 0}, limit, api.Cyc{}, api.ErrRange},
		{api.Cyc{limit, 0, limit, 0}, limit + 1, api.Cyc{}, api.ErrArg},
		{api.Cyc{}, limit + 1, api.Cyc{}, api.ErrArg},
		{api.Cyc{}, -limit - 1, api.Cyc{}, api.ErrArg},
		{api.Cyc{}, math.MinInt, api.Cyc{}, api.ErrArg},
		{api.Cyc{0, 0, 0, limit + 1}, 0, api.Cyc{}, api.ErrArg},
		{api.Cyc{math.MinInt, 0, 0, 0}, 0, api.Cyc{}, api.ErrArg},
	} {
		if z, e := cyclo.Scale(c.x, c.k); z != c.want || e != c.e {
			t.Errorf("P3.2: Scale(%v, %d) = %v, %d; want %v, %d", c.x, c.k, z, e, c.want, c.e)
		}
	}
}

// TestErrorOrder looks at arguments that are not as stated while the result would not be within Limit either.
func TestErrorOrder(t *testing.T) {
	good, bad, below := api.Cyc{cyclo.Limit, cyclo.Limit, cyclo.Limit, cyclo.Limit}, api.Cyc{cyclo.Limit + 1, 0, cyclo.Limit, 0}, api.Cyc{-1, 0, 0, 0}
	turn := func(k int) func(x, _ api.Cyc) (api.Cyc, api.Errno) {
		return func(x, _ api.Cyc) (api.Cyc, api.Errno) { return cyclo.Turn(x, k) }
	}
	scale := func(k int) func(x, _ api.Cyc) (api.Cyc, api.Errno) {
		return func(x, _ api.Cyc) (api.Cyc, api.Errno) { return cyclo.Scale(x, k) }
	}
	conj := func(x, _ api.Cyc) (api.Cyc, api.Errno) { return cyclo.Conj(x) }
	for _, c := range []struct {
		name string
		x, y api.Cyc
		call func(x, y api.Cyc) (api.Cyc, api.Errno)
		want api.Errno
	}{
		{"Add", good, good, cyclo.Add, api.ErrRange},
		{"Add", good, bad, cyclo.Add, api.ErrArg},
		{"Add", bad, good, cyclo.Add, api.ErrArg},
		{"Sub", good, below, cyclo.Sub, api.ErrRange},
		{"Sub", below, bad, cyclo.Sub, api.ErrArg},
		{"Sub", bad, below, cyclo.Sub, api.ErrArg},
		{"Scale", good, below, scale(2), api.ErrRange},
		{"Scale", bad, below, scale(2), api.ErrArg},
		{"Scale", good, below, scale(cyclo.Limit + 1), api.ErrArg},
		{"Mul", good, good, cyclo.Mul, api.ErrArg},
		{"Mul", api.Cyc{}, api.Cyc{0, 0, 0, cyclo.Factor + 1}, cyclo.Mul, api.ErrArg},
		{"Mul", api.Cyc{0, -cyclo.Factor - 1, 0, 0}, api.Cyc{}, cyclo.Mul, api.ErrArg},
		{"Turn", good, below, turn(1), api.ErrRange},
		{"Turn", bad, below, turn(1), api.ErrArg},
		{"Turn", bad, below, turn(0), api.ErrArg},
		{"Conj", good, below, conj, api.ErrRange},
		{"Conj", bad, below, conj, api.ErrArg},
	} {
		if z, e := c.call(c.x, c.y); z != (api.Cyc{}) || e != c.want {
			t.Errorf("P3.2: %s(%v, %v) = %v, %d; want error %d", c.name, c.x, c.y, z, e, c.want)
		}
	}
}
