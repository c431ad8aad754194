package cyclo_test

import (
	"math"
	"math/rand"
	"testing"

	"substation/api"
	"substation/cyclo"
)

// checkParts checks Real, Imag and Norm.
func checkParts(t *testing.T, x api.Cyc) {
	t.Helper()
	p := planeOf(x)
	n, e := cyclo.Real(x)
	expectPart(t, n, e, inside(part, x), p.re, "Real", x)
	n, e = cyclo.Imag(x)
	expectPart(t, n, e, inside(part, x), p.im, "Imag", x)
	n, e = cyclo.Norm(x)
	expectPart(t, n, e, inside(cyclo.Factor, x), p.norm(), "Norm", x)
}

func TestPartsEdges(t *testing.T) {
	for _, x := range numbers() {
		checkParts(t, x)
	}
	for _, n := range []int{1, cyclo.Factor, cyclo.Factor + 1, part, part + 1, cyclo.Limit} {
		for _, x := range corners(n) {
			checkParts(t, x)
		}
	}
}

func TestPartsRandom(t *testing.T) {
	r := rand.New(rand.NewSource(2))
	for range 20000 {
		checkParts(t, randomNumber(r, 50))
		checkParts(t, randomNumber(r, cyclo.Factor))
		checkParts(t, randomNumber(r, part))
	}
}

// TestPartsExamples looks at results that are written out, at their greatest values and at arguments that are not as stated.
func TestPartsExamples(t *testing.T) {
	const factor = cyclo.Factor
	for _, c := range []struct {
		name string
		call func(x api.Cyc) (api.Surd, api.Errno)
		x    api.Cyc
		want api.Surd
		e    api.Errno
	}{
		{"Real", cyclo.Real, api.Cyc{2, 3, 5, 11}, api.Surd{A: 9, B: 3}, api.OK},
		{"Real", cyclo.Real, api.Cyc{part, part, part, part}, api.Surd{A: 3 * part, B: part}, api.OK},
		{"Real", cyclo.Real, api.Cyc{0, 0, 0, part + 1}, api.Surd{}, api.ErrArg},
		{"Real", cyclo.Real, api.Cyc{0, -part - 1, 0, 0}, api.Surd{}, api.ErrArg},
		{"Imag", cyclo.Imag, api.Cyc{2, 3, 5, 11}, api.Surd{A: 25, B: 5}, api.OK},
		{"Imag", cyclo.Imag, api.Cyc{-part, -part, -part, -part}, api.Surd{A: -3 * part, B: -part}, api.OK},
		{"Imag", cyclo.Imag, api.Cyc{part + 1, 0, 0, 0}, api.Surd{}, api.ErrArg},
		{"Imag", cyclo.Imag, api.Cyc{0, 0, math.MinInt, 0}, api.Surd{}, api.ErrArg},
		{"Norm", cyclo.Norm, api.Cyc{}, api.Surd{}, api.OK},
		{"Norm", cyclo.Norm, api.Cyc{2, 3, 5, 11}, api.Surd{A: 202, B: 76}, api.OK},
		{"Norm", cyclo.Norm, api.Cyc{factor, factor, factor, factor}, api.Surd{A: 6 << 56, B: 3 << 56}, api.OK},
		{"Norm", cyclo.Norm, api.Cyc{-factor, factor, factor, -factor}, api.Surd{A: 2 << 56, B: -1 << 56}, api.OK},
		{"Norm", cyclo.Norm, api.Cyc{0, 0, factor + 1, 0}, api.Surd{}, api.ErrArg},
		{"Norm", cyclo.Norm, api.Cyc{0, 0, 0, -factor - 1}, api.Surd{}, api.ErrArg},
	} {
		if n, e := c.call(c.x); n != c.want || e != c.e {
			t.Errorf("P3.3: %s(%v) = %v, %d; want %v, %d", c.name, c.x, n, e, c.want, c.e)
		}
	}
}
