package integer_test

import (
	"math/big"
	"math/rand"
	"slices"
	"testing"

	"substation/api"
	"substation/integer"
)

// checkSums checks Neg, Add, Sub and Mul for two integers.
func checkSums(t *testing.T, x, y api.Int) {
	t.Helper()
	a, b := toBig(x), toBig(y)
	z, e := integer.Neg(x)
	expect(t, "P1.2: Neg", z, e, new(big.Int).Neg(a))
	z, e = integer.Add(x, y)
	expect(t, "P1.2: Add", z, e, new(big.Int).Add(a, b))
	z, e = integer.Sub(x, y)
	expect(t, "P1.2: Sub", z, e, new(big.Int).Sub(a, b))
	z, e = integer.Mul(x, y)
	expect(t, "P1.2: Mul", z, e, new(big.Int).Mul(a, b))
}

// checkDivide checks Divide for two integers, the second one not 0.
func checkDivide(t *testing.T, x, y api.Int) {
	t.Helper()
	wantQ, wantR := new(big.Int).DivMod(toBig(x), toBig(y), new(big.Int))
	q, r, e := integer.Divide(x, y)
	expect(t, "P1.2: quotient", q, e, wantQ)
	expect(t, "P1.2: remainder", r, e, wantR)
}

// checkGcd checks Gcd for two integers, in both orders.
func checkGcd(t *testing.T, x, y api.Int) {
	t.Helper()
	want := new(big.Int).GCD(nil, nil, new(big.Int).Abs(toBig(x)), new(big.Int).Abs(toBig(y)))
	g, e := integer.Gcd(x, y)
	expect(t, "P1.2: Gcd", g, e, want)
	g, e = integer.Gcd(y, x)
	expect(t, "P1.2: Gcd", g, e, want)
}

// checkRoot checks Root for an integer that is not negative.
func checkRoot(t *testing.T, x api.Int) {
	t.Helper()
	r, e := integer.Root(x)
	expect(t, "P1.2: Root", r, e, new(big.Int).Sqrt(toBig(x)))
}

// checkAll checks all of P1.2 for two valid integers.
func checkAll(t *testing.T, x, y api.Int) {
	t.Helper()
	checkSums(t, x, y)
	checkGcd(t, x, y)
	if len(y.Mag) > 0 {
		checkDivide(t, x, y)
	}
	if !x.Neg {
		checkRoot(t, x)
	}
}

func TestEdges(t *testing.T) {
	for _, x := range edges() {
		for _, y := range edges() {
			checkAll(t, x, y)
		}
	}
}

func TestRandom(t *testing.T) {
	r := rand.New(rand.NewSource(21))
	for range 20000 {
		checkAll(t, random(r, 6), random(r, 4))
	}
	for range 200 {
		checkAll(t, random(r, integer.MaxDigits), random(r, integer.MaxDigits))
	}
}

// TestLongestResults looks at results with MaxDigits digits and with one more.
func TestLongestResults(t *testing.T) {
	last := greatest(integer.MaxDigits)
	one, minus := number(false, 1), number(true, 1)
	for _, c := range []struct {
		name string
		call func(x, y api.Int) (api.Int, api.Errno)
		x, y api.Int
		want api.Errno
	}{
		{"Add", integer.Add, last, one, api.ErrRange},
		{"Add", integer.Add, last, last, api.ErrRange},
		{"Add", integer.Add, last, minus, api.OK},
		{"Add", integer.Add, negative(last), one, api.OK},
		{"Add", integer.Add, negative(last), minus, api.ErrRange},
		{"Add", integer.Add, last, api.Int{}, api.OK},
		{"Sub", integer.Sub, last, one, api.OK},
		{"Sub", integer.Sub, last, minus, api.ErrRange},
		{"Sub", integer.Sub, negative(last), one, api.ErrRange},
		{"Sub", integer.Sub, negative(last), minus, api.OK},
		{"Sub", integer.Sub, negative(last), negative(last), api.OK},
		{"Mul", integer.Mul, last, minus, api.OK},
		{"Mul", integer.Mul, last, number(false, 2), api.ErrRange},
		{"Mul", integer.Mul, last, last, api.ErrRange},
		{"Mul", integer.Mul, greatest(200), greatest(200), api.OK},
		{"Mul", integer.Mul, greatest(201), greatest(200), api.ErrRange},
		{"Mul", integer.Mul, power(200), power(199), api.OK},
		{"Mul", integer.Mul, power(200), power(200), api.ErrRange},
		{"Mul", integer.Mul, power(200), negative(power(200)), api.ErrRange},
		{"Gcd", integer.Gcd, last, negative(last), api.OK},
		{"Gcd", integer.Gcd, negative(last), api.Int{}, api.OK},
	} {
		z, e := c.call(c.x, c.y)
		if e != c.want || e != api.OK && !zero(z) || !integer.Valid(z) {
			t.Errorf("P1.2: %s of %d and %d digits: %d digits, error %d, not %d", c.name, len(c.x.Mag), len(c.y.Mag), len(z.Mag), e, c.want)
		}
		checkAll(t, c.x, c.y)
	}
}

func TestErrors(t *testing.T) {
	valid := append(edges(), api.Int{})
	for i, bad := range invalid() {
		for _, f := range operations() {
			for _, good := range valid {
				if l, e := f.call(bad, good); e != api.ErrArg || !zero(l[0]) || !zero(l[len(l)-1]) {
					t.Errorf("P1.2: %s with invalid integer %d first: error %d", f.name, i, e)
				}
				if f.name == "Neg" || f.name == "Root" {
					continue
				}
				if l, e := f.call(good, bad); e != api.ErrArg || !zero(l[0]) || !zero(l[len(l)-1]) {
					t.Errorf("P1.2: %s with invalid integer %d second: error %d", f.name, i, e)
				}
			}
		}
	}
	for _, x := range valid {
		if q, r, e := integer.Divide(x, api.Int{}); e != api.ErrZero || !zero(q) || !zero(r) {
			t.Errorf("P1.2: Divide(%v, 0) = %v, %v, %d", x, q, r, e)
		}
		if r, e := integer.Root(x); x.Neg && (e != api.ErrArg || !zero(r)) {
			t.Errorf("P1.2: Root(%v) = %v, %d", x, r, e)
		}
	}
}

func TestZeroHasNoSign(t *testing.T) {
	none := api.Int{Mag: []uint32{}}
	for _, c := range [][2]api.Int{{none, none}, {number(true, 5), number(true, 5)}, {none, number(true, 5)}, {number(true, 5), none}} {
		checkAll(t, c[0], c[1])
	}
	if x, e := integer.Neg(none); e != api.OK || !zero(x) {
		t.Errorf("P1.2: Neg(0) = %v, %d", x, e)
	}
	if x, e := integer.Sub(number(true, 5), number(true, 5)); e != api.OK || !zero(x) {
		t.Errorf("P1.2: -5 - -5 = %v, %d", x, e)
	}
	if q, r, e := integer.Divide(none, number(true, 5)); e != api.OK || !zero(q) || !zero(r) {
		t.Errorf("P1.2: 0 / -5 = %v, %v, %d", q, r, e)
	}
	if g, e := integer.Gcd(none, none); e != api.OK || !zero(g) {
		t.Errorf("P1.2: Gcd(0, 0) = %v, %d", g, e)
	}
}

func TestDivideExamples(t *testing.T) {
	for _, c := range [][4]int{
		{-7, 2, -4, 1}, {-7, -2, 4, 1}, {7, -2, -3, 1}, {7, 2, 3, 1},
		{-6, 2, -3, 0}, {-6, -2, 3, 0}, {6, -2, -3, 0}, {-1, 10, -1, 9}, {-1, -10, 1, 9}, {1, -10, 0, 1},
		{-1 << 63, 1, -1 << 63, 0}, {-1 << 63, 2, -1 << 62, 0}, {1<<63 - 1, -1 << 63, 0, 1<<63 - 1}, {-1 << 63, 1<<63 - 1, -2, 1<<63 - 2},
	} {
		q, r, e := integer.Divide(integer.Of(c[0]), integer.Of(c[1]))
		if e != api.OK || !same(q, integer.Of(c[2])) || !same(r, integer.Of(c[3])) {
			t.Errorf("P1.2: Divide(%d, %d) = %v, %v, %d", c[0], c[1], q, r, e)
		}
	}
}

// TestDivideCorrections has quotients whose digits are first estimated one or two too great, or must be taken back after the subtraction.
func TestDivideCorrections(t *testing.T) {
	for _, c := range [][2][]uint32{
		{{3, 0, 1 << 31}, {1, 0, 1 << 29}},
		{{0, 0, 1 << 15, 1<<15 - 1}, {1, 0, 1 << 15}},
		{{0, top - 1, 1 << 31}, {top, 1 << 31}},
		{{0, 0, 1<<31 - 1, 1 << 31}, {1, 0, 1 << 31}},
		{{0, 0, 0, 1 << 31, 1<<31 - 1}, {1, 0, 1 << 31}},
		{{top, top, top - 1, top}, {top, top}},
		{{0, 0, 1}, {top, top}},
		{{0, 0, 0, 1}, {top, 0, 1}},
	} {
		for i := range 4 {
			checkDivide(t, number(i&1 > 0, c[0]...), number(i&2 > 0, c[1]...))
		}
	}
	// Products plus or minus a little lie beside the places where a digit of the quotient changes.
	r := rand.New(rand.NewSource(22))
	for range 3000 {
		x, y := random(r, 5), random(r, 5)
		if len(y.Mag) == 0 {
			continue
		}
		p := new(big.Int).Mul(toBig(x), toBig(y))
		for d := range int64(3) {
			checkDivide(t, fromBig(new(big.Int).Add(p, big.NewInt(d-1))), y)
		}
	}
}

func TestGcdExamples(t *testing.T) {
	for _, c := range [][3]int{{12, 18, 6}, {-12, 18, 6}, {12, -18, 6}, {-12, -18, 6}, {0, 0, 0}, {0, -5, 5}, {-5, 0, 5}, {1, 0, 1}, {1 << 40, 3 << 38, 1 << 38}, {17, 13, 1}, {6, 6, 6}} {
		if g, e := integer.Gcd(integer.Of(c[0]), integer.Of(c[1])); e != api.OK || !same(g, integer.Of(c[2])) {
			t.Errorf("P1.2: Gcd(%d, %d) = %v, %d, not %d", c[0], c[1], g, e, c[2])
		}
	}
}

// TestGcdCommonFactors looks at multiples of a common factor, and at Fibonacci numbers, all of whose quotients are 1.
func TestGcdCommonFactors(t *testing.T) {
	r := rand.New(rand.NewSource(23))
	for range 3000 {
		g, x, y := random(r, 8), random(r, 8), random(r, 8)
		a, b := new(big.Int).Mul(toBig(g), toBig(x)), new(big.Int).Mul(toBig(g), toBig(y))
		checkGcd(t, fromBig(a), fromBig(b))
	}
	a, b := big.NewInt(0), big.NewInt(1)
	for a.BitLen() < 32*integer.MaxDigits-1 {
		a, b = b, a.Add(a, b)
		if a.BitLen()%64 < 2 {
			checkGcd(t, fromBig(a), fromBig(b))
			checkGcd(t, fromBig(new(big.Int).Rsh(a, 7)), fromBig(b))
		}
	}
	checkGcd(t, fromBig(a), fromBig(new(big.Int).Sub(a, b)))
}

func TestRootExamples(t *testing.T) {
	for n, want := range map[int]int{0: 0, 1: 1, 2: 1, 3: 1, 4: 2, 8: 2, 9: 3, 80: 8, 81: 9, 99: 9, 100: 10, top: 65535, 1 << 32: 65536, 1<<62 - 1: 1<<31 - 1, 1 << 62: 1 << 31, 1<<63 - 1: 3037000499} {
		if r, e := integer.Root(integer.Of(n)); e != api.OK || !same(r, integer.Of(want)) {
			t.Errorf("P1.2: Root(%d) = %v, %d, not %d", n, r, e, want)
		}
	}
}

// TestRootBesideSquares looks at squares and the integers before and after them.
func TestRootBesideSquares(t *testing.T) {
	r := rand.New(rand.NewSource(24))
	roots := []api.Int{greatest(integer.MaxDigits / 2), power(integer.MaxDigits/2 - 1)}
	for range 2000 {
		roots = append(roots, random(r, 6))
	}
	for _, x := range roots {
		square := new(big.Int).Mul(toBig(x), toBig(x))
		for d := range int64(3) {
			if b := new(big.Int).Add(square, big.NewInt(d-1)); b.Sign() >= 0 {
				checkRoot(t, fromBig(b))
			}
		}
	}
	for n := range 70 {
		square := new(big.Int).Lsh(big.NewInt(1), uint(n))
		checkRoot(t, fromBig(square))
		checkRoot(t, fromBig(square.Sub(square, big.NewInt(1))))
	}
}

// TestArguments looks at P2: calls do not change their arguments or what lies behind them, and keep none of them.
func TestArguments(t *testing.T) {
	r := rand.New(rand.NewSource(25))
	l := []api.Int{{}, number(false, 1), number(true, 1), number(false, 3), number(false, top), number(true, top, top), number(false, 7, 7, 7), number(true, 7, 7, 7)}
	for range 20 {
		l = append(l, random(r, 6))
	}
	for _, x := range l {
		for _, y := range l {
			for _, f := range operations() {
				checkArguments(t, f, x, y)
			}
		}
	}
}

// checkArguments calls a function with arguments that have spare capacity, and overwrites the results up to their capacity.
func checkArguments(t *testing.T, f operation, x, y api.Int) {
	t.Helper()
	spare := []uint32{11, 12, 13}
	a, b := slices.Concat(x.Mag, spare), slices.Concat(y.Mag, spare)
	n, m := len(x.Mag), len(y.Mag)
	results, _ := f.call(api.Int{Neg: x.Neg, Mag: a[:n]}, api.Int{Neg: y.Neg, Mag: b[:m]})
	again, _ := f.call(api.Int{Neg: x.Neg, Mag: a[:n]}, api.Int{Neg: y.Neg, Mag: b[:m]})
	for i, z := range results {
		if !same(z, again[i]) {
			t.Errorf("P3: %s(%v, %v) differs from call to call", f.name, x, y)
		}
		for k := range z.Mag[:cap(z.Mag)] {
			z.Mag[:cap(z.Mag)][k] = uint32(1000 + i)
		}
	}
	for i, z := range results {
		if slices.ContainsFunc(z.Mag, func(d uint32) bool { return d != uint32(1000+i) }) {
			t.Errorf("P2: %s(%v, %v): two results share memory", f.name, x, y)
		}
	}
	if !slices.Equal(a, slices.Concat(x.Mag, spare)) || !slices.Equal(b, slices.Concat(y.Mag, spare)) {
		t.Errorf("P2: %s(%v, %v) has changed an argument, or shares memory with it", f.name, x, y)
	}
}
