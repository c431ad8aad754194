package integer_test

import (
	"math"
	"math/big"
	"math/rand"
	"testing"

	"substation/api"
	"substation/integer"
)

func TestValid(t *testing.T) {
	for _, x := range edges() {
		if !integer.Valid(x) {
			t.Errorf("P1.1: Valid(%v) is false", x)
		}
	}
	for i, x := range invalid() {
		if integer.Valid(x) {
			t.Errorf("P1.1: Valid of invalid integer %d, %d digits, is true", i, len(x.Mag))
		}
	}
	if !integer.Valid(api.Int{Mag: []uint32{}}) {
		t.Error("P1.1, P6: 0 with an empty slice is not valid")
	}
}

func TestOfAndSmall(t *testing.T) {
	for n, want := range map[int]api.Int{
		0:             {},
		1:             number(false, 1),
		-1:            number(true, 1),
		top:           number(false, top),
		1 << 32:       number(false, 0, 1),
		-1 << 32:      number(true, 0, 1),
		math.MaxInt:   number(false, top, 1<<31-1),
		-math.MaxInt:  number(true, top, 1<<31-1),
		math.MinInt:   number(true, 0, 1<<31),
		12345678901:   number(false, 3755744309, 2),
		-(1<<40 + 17): number(true, 17, 1<<8),
	} {
		if x := integer.Of(n); !same(x, want) || !integer.Valid(x) {
			t.Errorf("P1.1: Of(%d) = %v, not %v", n, x, want)
		}
		if k, ok := integer.Small(want); k != n || !ok {
			t.Errorf("P1.1: Small(%v) = %d, %v, not %d", want, k, ok, n)
		}
	}
	for _, x := range append(invalid(), number(false, 0, 1<<31), number(true, 1, 1<<31), number(false, top, top), number(true, top, top), power(2), negative(power(2)), greatest(integer.MaxDigits)) {
		if k, ok := integer.Small(x); k != 0 || ok {
			t.Errorf("P1.1: Small of %d digits = %d, %v, not 0 and false", len(x.Mag), k, ok)
		}
	}
}

func TestOfRandom(t *testing.T) {
	r := rand.New(rand.NewSource(11))
	for range 2000 {
		n := int(r.Uint64()) >> r.Intn(64)
		x := integer.Of(n)
		if !integer.Valid(x) || toBig(x).Cmp(big.NewInt(int64(n))) != 0 {
			t.Fatalf("P1.1: Of(%d) = %v", n, x)
		}
		if k, ok := integer.Small(x); k != n || !ok {
			t.Fatalf("P1.1: Small(Of(%d)) = %d, %v", n, k, ok)
		}
	}
}

func TestCompare(t *testing.T) {
	l := edges()
	for i, x := range l {
		for k, y := range l {
			want := 0
			if i != k {
				want = (i - k) / max(i-k, k-i)
			}
			if got := integer.Compare(x, y); got != want {
				t.Errorf("P1.1: Compare(%v, %v) = %d, not %d", x, y, got, want)
			}
		}
		if got, want := integer.Sign(x), toBig(x).Sign(); got != want {
			t.Errorf("P1.1: Sign(%v) = %d, not %d", x, got, want)
		}
	}
}

func TestCompareInvalid(t *testing.T) {
	for i, x := range invalid() {
		for _, y := range edges() {
			if integer.Compare(x, y) != 0 || integer.Compare(y, x) != 0 {
				t.Errorf("P1.1: Compare with invalid integer %d is not 0", i)
			}
		}
		for _, y := range invalid() {
			if integer.Compare(x, y) != 0 {
				t.Errorf("P1.1: Compare of two invalid integers, the first one number %d, is not 0", i)
			}
		}
		if integer.Sign(x) != 0 {
			t.Errorf("P1.1: Sign of invalid integer %d is not 0", i)
		}
	}
}

func TestCompareRandom(t *testing.T) {
	r := rand.New(rand.NewSource(12))
	for range 5000 {
		x, y := random(r, 4), random(r, 4)
		if got, want := integer.Compare(x, y), toBig(x).Cmp(toBig(y)); got != want {
			t.Fatalf("P1.1: Compare(%v, %v) = %d, not %d", x, y, got, want)
		}
	}
}
