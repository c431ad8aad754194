package surd_test

import (
	"math/rand"
	"testing"

	"substation/api"
	"substation/surd"
)

// laws calls the functions for numbers so small that nothing is out of range.
type laws struct{ t *testing.T }

func (l laws) number(x api.Surd, e api.Errno) api.Surd {
	l.t.Helper()
	if e != api.OK {
		l.t.Fatalf("P2.4: error %d", e)
	}
	return x
}

func (l laws) int(n int, e api.Errno) int {
	l.t.Helper()
	if e != api.OK {
		l.t.Fatalf("P2.4: error %d", e)
	}
	return n
}

func (l laws) add(x, y api.Surd) api.Surd { return l.number(surd.Add(x, y)) }
func (l laws) mul(x, y api.Surd) api.Surd { return l.number(surd.Mul(x, y)) }

// equal fails if the two sides of a law differ.
func (l laws) equal(law string, x, y any) {
	l.t.Helper()
	if x != y {
		l.t.Errorf("P2.4: %s: %v and %v", law, x, y)
	}
}

func TestRing(t *testing.T) {
	l := laws{t}
	r := rand.New(rand.NewSource(21))
	none, one := number(0, 0), number(1, 0)
	for range 5000 {
		x, y, z := randomNumber(r, 1<<12), randomNumber(r, 1<<12), randomNumber(r, 1<<12)
		l.equal("x + y = y + x", l.add(x, y), l.add(y, x))
		l.equal("(x + y) + z = x + (y + z)", l.add(l.add(x, y), z), l.add(x, l.add(y, z)))
		l.equal("x - y = x + -1 * y", l.number(surd.Sub(x, y)), l.add(x, l.number(surd.Scale(y, -1))))
		l.equal("x - x = 0", l.number(surd.Sub(x, x)), none)
		l.equal("x * y = y * x", l.mul(x, y), l.mul(y, x))
		l.equal("(x * y) * z = x * (y * z)", l.mul(l.mul(x, y), z), l.mul(x, l.mul(y, z)))
		l.equal("x * 1 = x", l.mul(x, one), x)
		l.equal("x * (y + z) = x * y + x * z", l.mul(x, l.add(y, z)), l.add(l.mul(x, y), l.mul(x, z)))
		l.equal("k * x = (k + 0*sqrt(3)) * x", l.number(surd.Scale(x, y.A)), l.mul(x, number(y.A, 0)))
	}
}

func TestSigns(t *testing.T) {
	l := laws{t}
	r := rand.New(rand.NewSource(22))
	small := ties(surd.Factor)
	for range 5000 {
		x, y := randomNumber(r, surd.Factor), small[r.Intn(len(small))]
		l.equal("the sign of a product", surd.Sign(l.mul(x, y)), surd.Sign(x)*surd.Sign(y))
		l.equal("0 only if A and B are 0", surd.Sign(x) == 0, x == number(0, 0))
		l.equal("the sign of the opposite", surd.Sign(l.number(surd.Scale(x, -1))), -surd.Sign(x))
		l.equal("Compare in the other order", l.int(surd.Compare(x, y)), -l.int(surd.Compare(y, x)))
		l.equal("Compare is the sign of the difference", l.int(surd.Compare(x, y)), surd.Sign(l.number(surd.Sub(x, y))))
		l.equal("Versus with 1 is Compare", l.int(surd.Versus(x, 1, y, 1)), l.int(surd.Compare(x, y)))
	}
}

func TestNorms(t *testing.T) {
	l := laws{t}
	r := rand.New(rand.NewSource(23))
	for range 5000 {
		x, y := randomNumber(r, 1<<13), randomNumber(r, 1<<13)
		l.equal("the norm of a product", l.int(surd.Norm(l.mul(x, y))), l.int(surd.Norm(x))*l.int(surd.Norm(y)))
		conj := l.number(surd.Conj(x))
		l.equal("the norm is x times its conjugate", number(l.int(surd.Norm(x)), 0), l.mul(x, conj))
		l.equal("the conjugate of the conjugate", l.number(surd.Conj(conj)), x)
		l.equal("the norm is 0 only for 0", l.int(surd.Norm(x)) == 0, x == number(0, 0))
	}
}

// TestFloorBounds looks at n*d <= x < (n+1)*d, and at the same for Round with everything doubled.
func TestFloorBounds(t *testing.T) {
	l := laws{t}
	r := rand.New(rand.NewSource(24))
	for range 10000 {
		x, d := randomNumber(r, 1<<40), 1+random(r, 1<<30)&(1<<30-1)
		n := l.int(surd.Floor(x, d))
		if l.int(surd.Compare(number(n*d, 0), x)) > 0 || l.int(surd.Compare(x, number((n+1)*d, 0))) >= 0 {
			t.Errorf("P2.4: Floor(%v, %d) = %d", x, d, n)
		}
		n = l.int(surd.Round(x, d))
		twice := number(2*x.A+d, 2*x.B)
		if l.int(surd.Compare(number(2*n*d, 0), twice)) > 0 || l.int(surd.Compare(twice, number((2*n+2)*d, 0))) >= 0 {
			t.Errorf("P2.3: Round(%v, %d) = %d", x, d, n)
		}
	}
}

func TestExamples(t *testing.T) {
	l := laws{t}
	root := number(0, 1)
	if surd.Sign(number(7, -4)) != 1 {
		t.Error("P2.1: example 1: the sign of 7 - 4*sqrt(3) is not 1")
	}
	for _, c := range []struct {
		name      string
		got, want int
	}{
		{"Floor(sqrt(3), 1)", l.int(surd.Floor(root, 1)), 1},
		{"Round(sqrt(3), 1)", l.int(surd.Round(root, 1)), 2},
		{"Round(1, 2)", l.int(surd.Round(number(1, 0), 2)), 1},
		{"Round(-1, 2)", l.int(surd.Round(number(-1, 0), 2)), 0},
		{"Round(-3, 2)", l.int(surd.Round(number(-3, 0), 2)), -1},
		{"Floor(-sqrt(3), 1)", l.int(surd.Floor(number(0, -1), 1)), -2},
		{"Floor(-1, 2)", l.int(surd.Floor(number(-1, 0), 2)), -1},
		{"Floor(-4, 2)", l.int(surd.Floor(number(-4, 0), 2)), -2},
	} {
		if c.got != c.want {
			t.Errorf("P2.3: %s = %d, not %d", c.name, c.got, c.want)
		}
	}
}
