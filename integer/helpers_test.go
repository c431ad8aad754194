package integer_test

import (
	"math/big"
	"math/rand"
	"slices"
	"testing"

	"substation/api"
	"substation/integer"
)

// top is the greatest digit.
const top = 1<<32 - 1

// number returns an integer from its digits.
func number(neg bool, mag ...uint32) api.Int { return api.Int{Neg: neg, Mag: mag} }

// same reports whether two integers have the same sign and digits.
func same(x, y api.Int) bool { return x.Neg == y.Neg && slices.Equal(x.Mag, y.Mag) }

// zero reports whether x has the fields of 0, as results have beside an error.
func zero(x api.Int) bool { return !x.Neg && len(x.Mag) == 0 }

// filled returns n digits, all of which are d.
func filled(n int, d uint32) []uint32 { return slices.Repeat([]uint32{d}, n) }

// greatest returns the integer with n digits, all of which are the greatest one.
func greatest(n int) api.Int { return api.Int{Mag: filled(n, top)} }

// power returns 2^32 to the power of n.
func power(n int) api.Int { return api.Int{Mag: append(make([]uint32, n), 1)} }

// negative returns -x for a positive x.
func negative(x api.Int) api.Int { return api.Int{Neg: true, Mag: x.Mag} }

// fromBig returns the integer with the value of b, whatever its size.
func fromBig(b *big.Int) api.Int {
	var mag []uint32
	rest, mask := new(big.Int).Abs(b), big.NewInt(top)
	for rest.Sign() != 0 {
		mag = append(mag, uint32(new(big.Int).And(rest, mask).Uint64()))
		rest.Rsh(rest, 32)
	}
	return api.Int{Neg: b.Sign() < 0, Mag: mag}
}

// toBig returns the value of x.
func toBig(x api.Int) *big.Int {
	b := new(big.Int)
	for _, d := range slices.Backward(x.Mag) {
		b.Lsh(b, 32).Or(b, big.NewInt(int64(d)))
	}
	if x.Neg {
		b.Neg(b)
	}
	return b
}

// inRange reports whether b has at most MaxDigits digits.
func inRange(b *big.Int) bool { return b.BitLen() <= 32*integer.MaxDigits }

// invalid returns integers that are not valid.
func invalid() []api.Int {
	return []api.Int{
		{Neg: true},
		number(true, []uint32{}...),
		number(false, 0),
		number(true, 0),
		number(false, 1, 0),
		number(true, 1, 2, 0),
		greatest(integer.MaxDigits + 1),
		negative(greatest(integer.MaxDigits + 1)),
		{Mag: make([]uint32, integer.MaxDigits)},
		{Mag: make([]uint32, 5000)},
	}
}

// edges returns valid integers at the bounds that the chapter names, in ascending order.
func edges() []api.Int {
	positive := []api.Int{
		number(false, 1), number(false, 2), number(false, 999999999), number(false, 1000000000),
		number(false, 1<<31), number(false, top), number(false, 0, 1), number(false, 1, 1), number(false, 0, 2),
		number(false, top, 1<<31-1), number(false, 0, 1<<31), number(false, 1, 1<<31), number(false, top, top),
		number(false, 0, 0, 1), number(false, top, 0, 1), number(false, top, top, top),
		power(integer.MaxDigits / 2), power(integer.MaxDigits - 1), greatest(integer.MaxDigits - 1), greatest(integer.MaxDigits),
	}
	var l []api.Int
	for _, x := range positive {
		l = append(l, x, negative(x))
	}
	l = append(l, api.Int{})
	slices.SortFunc(l, func(x, y api.Int) int { return toBig(x).Cmp(toBig(y)) })
	return slices.CompactFunc(l, same)
}

// random returns a valid integer with at most n digits; many of them are extreme, so that carries and borrows run far.
func random(r *rand.Rand, n int) api.Int {
	mag := make([]uint32, r.Intn(n+1))
	for i := range mag {
		switch r.Intn(6) {
		case 0:
			mag[i] = 0
		case 1:
			mag[i] = top
		case 2:
			mag[i] = 1 << 31
		case 3:
			mag[i] = uint32(r.Intn(3))
		default:
			mag[i] = r.Uint32()
		}
	}
	for len(mag) > 0 && mag[len(mag)-1] == 0 {
		mag = mag[:len(mag)-1]
	}
	return api.Int{Neg: len(mag) > 0 && r.Intn(2) == 0, Mag: mag}
}

// expect checks a result against the value that it must have: that value, or ErrRange if it has too many digits.
func expect(t *testing.T, name string, got api.Int, e api.Errno, want *big.Int) {
	t.Helper()
	if !inRange(want) {
		if e != api.ErrRange || !zero(got) {
			t.Errorf("%s = %d digits, error %d; want ErrRange", name, len(got.Mag), e)
		}
		return
	}
	if e != api.OK || !integer.Valid(got) || toBig(got).Cmp(want) != 0 {
		t.Errorf("%s = %v, error %d; want %v", name, got, e, want)
	}
}

// operation is one of the functions with two arguments, or with one that ignores the second.
type operation struct {
	name string
	call func(x, y api.Int) ([]api.Int, api.Errno)
}

// operations returns all functions of P1.2.
func operations() []operation {
	binary := func(f func(x, y api.Int) (api.Int, api.Errno)) func(x, y api.Int) ([]api.Int, api.Errno) {
		return func(x, y api.Int) ([]api.Int, api.Errno) {
			z, e := f(x, y)
			return []api.Int{z}, e
		}
	}
	unary := func(f func(x api.Int) (api.Int, api.Errno)) func(x, y api.Int) ([]api.Int, api.Errno) {
		return func(x, _ api.Int) ([]api.Int, api.Errno) {
			z, e := f(x)
			return []api.Int{z}, e
		}
	}
	return []operation{
		{"Neg", unary(integer.Neg)},
		{"Add", binary(integer.Add)},
		{"Sub", binary(integer.Sub)},
		{"Mul", binary(integer.Mul)},
		{"Divide", func(x, y api.Int) ([]api.Int, api.Errno) {
			q, r, e := integer.Divide(x, y)
			return []api.Int{q, r}, e
		}},
		{"Gcd", binary(integer.Gcd)},
		{"Root", unary(integer.Root)},
	}
}
