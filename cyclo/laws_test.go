package cyclo_test

import (
	"math/rand"
	"testing"

	"substation/api"
	"substation/cyclo"
	"substation/surd"
)

// laws calls the functions for numbers so small that nothing is out of range.
type laws struct{ t *testing.T }

func (l laws) number(x api.Cyc, e api.Errno) api.Cyc {
	l.t.Helper()
	if e != api.OK {
		l.t.Fatalf("P3.4: error %d", e)
	}
	return x
}

func (l laws) surd(x api.Surd, e api.Errno) api.Surd {
	l.t.Helper()
	if e != api.OK {
		l.t.Fatalf("P3.4: error %d", e)
	}
	return x
}

func (l laws) add(x, y api.Cyc) api.Cyc      { return l.number(cyclo.Add(x, y)) }
func (l laws) mul(x, y api.Cyc) api.Cyc      { return l.number(cyclo.Mul(x, y)) }
func (l laws) turn(x api.Cyc, k int) api.Cyc { return l.number(cyclo.Turn(x, k)) }
func (l laws) conj(x api.Cyc) api.Cyc        { return l.number(cyclo.Conj(x)) }
func (l laws) norm(x api.Cyc) api.Surd       { return l.surd(cyclo.Norm(x)) }

// equal fails if the two sides of a law differ.
func (l laws) equal(law string, x, y any) {
	l.t.Helper()
	if x != y {
		l.t.Errorf("P3.4: %s: %v and %v", law, x, y)
	}
}

func TestRing(t *testing.T) {
	l := laws{t}
	r := rand.New(rand.NewSource(31))
	none, one := api.Cyc{}, cyclo.Root(0)
	for range 5000 {
		x, y, z := randomNumber(r, 1<<12), randomNumber(r, 1<<12), randomNumber(r, 1<<12)
		l.equal("x + y = y + x", l.add(x, y), l.add(y, x))
		l.equal("(x + y) + z = x + (y + z)", l.add(l.add(x, y), z), l.add(x, l.add(y, z)))
		l.equal("x + 0 = x", l.add(x, none), x)
		l.equal("x - y = x + -1 * y", l.number(cyclo.Sub(x, y)), l.add(x, l.number(cyclo.Scale(y, -1))))
		l.equal("x - x = 0", l.number(cyclo.Sub(x, x)), none)
		l.equal("x * y = y * x", l.mul(x, y), l.mul(y, x))
		l.equal("(x * y) * z = x * (y * z)", l.mul(l.mul(x, y), z), l.mul(x, l.mul(y, z)))
		l.equal("x * 1 = x", l.mul(x, one), x)
		l.equal("x * (y + z) = x * y + x * z", l.mul(x, l.add(y, z)), l.add(l.mul(x, y), l.mul(x, z)))
		l.equal("k * x is the product with k", l.number(cyclo.Scale(x, y[0])), l.mul(x, api.Cyc{y[0], 0, 0, 0}))
	}
}

func TestTurns(t *testing.T) {
	l := laws{t}
	r := rand.New(rand.NewSource(32))
	for range 5000 {
		x, j, k := randomNumber(r, cyclo.Factor), random(r, 1<<62), random(r, 50)
		l.equal("a turn by k and then by -k", l.turn(l.turn(x, k), -k), x)
		l.equal("a turn by j and then by -j", l.turn(l.turn(x, j), -j), x)
		l.equal("two turns are one by the sum", l.turn(l.turn(x, j), k), l.turn(x, j+k))
		l.equal("a turn is the product with the root", l.turn(x, k), l.mul(x, cyclo.Root(k)))
		l.equal("the product of two roots is a root", l.mul(cyclo.Root(j), cyclo.Root(k)), cyclo.Root(j+k))
	}
}

func TestConjugates(t *testing.T) {
	l := laws{t}
	r := rand.New(rand.NewSource(33))
	for range 5000 {
		x, y := randomNumber(r, 1<<12), randomNumber(r, 1<<12)
		l.equal("the conjugate of the conjugate", l.conj(l.conj(x)), x)
		l.equal("the conjugate of a sum", l.conj(l.add(x, y)), l.add(l.conj(x), l.conj(y)))
		l.equal("the conjugate of a product", l.conj(l.mul(x, y)), l.mul(l.conj(x), l.conj(y)))
		l.equal("the conjugate of a root", l.conj(cyclo.Root(x[0])), cyclo.Root(-x[0]))
		// sqrt(3) is 2*z - z^3.
		re, im, norm := l.surd(cyclo.Real(x)), l.surd(cyclo.Imag(x)), l.norm(x)
		l.equal("x plus its conjugate is Real", l.add(x, l.conj(x)), api.Cyc{re.A, 2 * re.B, 0, -re.B})
		l.equal("x minus its conjugate is Imag times i", l.number(cyclo.Sub(x, l.conj(x))), l.turn(api.Cyc{im.A, 2 * im.B, 0, -im.B}, 3))
		l.equal("x times its conjugate is Norm", l.mul(x, l.conj(x)), api.Cyc{norm.A, 2 * norm.B, 0, -norm.B})
	}
}

func TestNorms(t *testing.T) {
	l := laws{t}
	r := rand.New(rand.NewSource(34))
	for range 5000 {
		x, y := randomNumber(r, 1<<12), randomNumber(r, 1<<12)
		l.equal("the norm of a product", l.norm(l.mul(x, y)), l.surd(surd.Mul(l.norm(x), l.norm(y))))
		l.equal("the norm of a turned number", l.norm(l.turn(x, y[0])), l.norm(x))
		x = randomNumber(r, cyclo.Factor)
		l.equal("the norm is 0 only for 0", l.norm(x) == api.Surd{}, x == api.Cyc{})
		l.equal("the norm is not negative", surd.Sign(l.norm(x)) < 0, false)
	}
	for _, x := range corners(1) {
		l.equal("the norm is 0 only for 0", l.norm(x) == api.Surd{}, x == api.Cyc{})
	}
}

func TestExamples(t *testing.T) {
	l := laws{t}
	square := l.mul(cyclo.Root(4), cyclo.Root(4))
	l.equal("example 1: the square of Root(4)", square, api.Cyc{0, 0, -1, 0})
	l.equal("example 1: the square of Root(4)", square, cyclo.Root(8))
	l.equal("example 1: 1 + Root(4) + Root(8)", l.add(l.add(api.Cyc{1, 0, 0, 0}, cyclo.Root(4)), cyclo.Root(8)), api.Cyc{})
	for k := range 12 {
		l.equal("example 1: the norm of a root", l.norm(cyclo.Root(k)), api.Surd{A: 1})
	}
}
