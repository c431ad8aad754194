package cyclo_test

import (
	"math"
	"math/cmplx"
	"testing"

	"substation/api"
	"substation/cyclo"
)

// roots returns the powers of z from 0 to 11, as the chapter gives them.
func roots() []api.Cyc {
	return []api.Cyc{
		{1, 0, 0, 0}, {0, 1, 0, 0}, {0, 0, 1, 0}, {0, 0, 0, 1}, {-1, 0, 1, 0}, {0, -1, 0, 1},
		{-1, 0, 0, 0}, {0, -1, 0, 0}, {0, 0, -1, 0}, {0, 0, 0, -1}, {1, 0, -1, 0}, {0, 1, 0, -1},
	}
}

func TestRoot(t *testing.T) {
	for k, want := range roots() {
		for _, turns := range []int{0, 1, -1, 2, -2, 1000, -1000, 1 << 59, -1 << 59} {
			if got := cyclo.Root(k + 12*turns); got != want {
				t.Errorf("P3.1: Root(%d) = %v, not %v", k+12*turns, got, want)
			}
		}
	}
}

func TestRootAtTheBoundsOfInt(t *testing.T) {
	// 2^63 is 8 modulo 12.
	for d := range 30 {
		if got, want := cyclo.Root(math.MinInt+d), roots()[(4+d)%12]; got != want {
			t.Errorf("P3.1: Root(%d) = %v, not %v", math.MinInt+d, got, want)
		}
		if got, want := cyclo.Root(math.MaxInt-d), roots()[(7-d+36)%12]; got != want {
			t.Errorf("P3.1: Root(%d) = %v, not %v", math.MaxInt-d, got, want)
		}
	}
}

// TestRootIsOnTheUnitCircle looks at the powers, as complex numbers, and thereby also at the tests' own planes.
func TestRootIsOnTheUnitCircle(t *testing.T) {
	for k := -13; k < 26; k++ {
		p := planeOf(cyclo.Root(k))
		float := func(x real3) float64 { return float64(x.a.Int64()) + float64(x.b.Int64())*math.Sqrt(3) }
		got, want := complex(float(p.re)/2, float(p.im)/2), cmplx.Rect(1, float64(k)*math.Pi/6)
		if cmplx.Abs(got-want) > 1e-12 {
			t.Errorf("P3.1: Root(%d) is %v, not %v", k, got, want)
		}
	}
}
