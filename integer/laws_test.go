package integer_test

import (
	"math/rand"
	"testing"

	"substation/api"
	"substation/integer"
)

// laws calls the functions for integers so short that no result is out of range.
type laws struct{ t *testing.T }

// result returns x, or fails if there is an error.
func (l laws) result(x api.Int, e api.Errno) api.Int {
	l.t.Helper()
	if e != api.OK || !integer.Valid(x) {
		l.t.Fatalf("P1.4: error %d", e)
	}
	return x
}

func (l laws) add(x, y api.Int) api.Int { return l.result(integer.Add(x, y)) }
func (l laws) mul(x, y api.Int) api.Int { return l.result(integer.Mul(x, y)) }
func (l laws) neg(x api.Int) api.Int    { return l.result(integer.Neg(x)) }

// equal fails if the two sides of a law differ.
func (l laws) equal(law string, x, y api.Int) {
	l.t.Helper()
	if !same(x, y) {
		l.t.Errorf("P1.4: %s: %v and %v", law, x, y)
	}
}

func TestRing(t *testing.T) {
	l := laws{t}
	r := rand.New(rand.NewSource(41))
	none, one := api.Int{}, number(false, 1)
	for i := range 3000 {
		n := 5
		if i%100 == 0 {
			n = integer.MaxDigits/3 - 1
		}
		x, y, z := random(r, n), random(r, n), random(r, n)
		l.equal("x + y = y + x", l.add(x, y), l.add(y, x))
		l.equal("(x + y) + z = x + (y + z)", l.add(l.add(x, y), z), l.add(x, l.add(y, z)))
		l.equal("x + 0 = x", l.add(x, none), x)
		l.equal("x + -x = 0", l.add(x, l.neg(x)), none)
		l.equal("- -x = x", l.neg(l.neg(x)), x)
		l.equal("x - y = x + -y", l.result(integer.Sub(x, y)), l.add(x, l.neg(y)))
		l.equal("x * y = y * x", l.mul(x, y), l.mul(y, x))
		l.equal("(x * y) * z = x * (y * z)", l.mul(l.mul(x, y), z), l.mul(x, l.mul(y, z)))
		l.equal("x * 1 = x", l.mul(x, one), x)
		l.equal("x * 0 = 0", l.mul(x, none), none)
		l.equal("x * (y + z) = x * y + x * z", l.mul(x, l.add(y, z)), l.add(l.mul(x, y), l.mul(x, z)))
	}
}

func TestDivideInverts(t *testing.T) {
	l := laws{t}
	r := rand.New(rand.NewSource(42))
	for range 3000 {
		x, y := random(r, 9), random(r, 5)
		if integer.Sign(y) == 0 {
			continue
		}
		q, rest, e := integer.Divide(x, y)
		if e != api.OK || integer.Sign(rest) < 0 || integer.Compare(rest, api.Int{Mag: y.Mag}) >= 0 {
			t.Fatalf("P1.2: Divide(%v, %v) = %v, %v, %d", x, y, q, rest, e)
		}
		l.equal("q * y + r = x", l.add(l.mul(q, y), rest), x)
	}
}
