package station_test

import (
	"math/rand"
	"strings"
	"testing"

	"substation/api"
	"substation/station"
	"substation/syntax"
)

// checkRoundTrip fails if the statements of a valid diagram, also as a text, are not those of the same diagram.
func checkRoundTrip(t *testing.T, s api.Station) {
	t.Helper()
	if e := station.Check(s); e != api.OK {
		t.Fatalf("P5.1: Check of %s = %d", dump(s), e)
	}
	l := station.Encode(s)
	if e := syntax.Check(l); e != api.OK {
		t.Fatalf("P5.4: Encode of %s has error %d: %s", dump(s), e, dumpItems(l))
	}
	back, line, e := station.Decode(l)
	if line != 0 || e != api.OK || !station.Same(back, s) || dump(back) != dump(s) {
		t.Errorf("P5.5: %s is encoded and decoded as %s, %d, %d", dump(s), dump(back), line, e)
	}
	back, line, e = station.Decode(parse(t, syntax.Format(l)))
	if line != 0 || e != api.OK || dump(back) != dump(s) {
		t.Errorf("P5.5: the text of %s is decoded as %s, %d, %d", dump(s), dump(back), line, e)
	}
}

func TestRoundTrip(t *testing.T) {
	checkRoundTrip(t, sample())
	r := rand.New(rand.NewSource(5))
	for range 5000 {
		checkRoundTrip(t, randomStation(r))
	}
	for _, c := range allNumbers() {
		for _, n := range []int{c.low, c.high} {
			s := sample()
			*c.at(&s) = n
			checkRoundTrip(t, s)
		}
	}
}

// TestRoundTripLargest looks at the diagrams with the longest texts.
func TestRoundTripLargest(t *testing.T) {
	largest := ohms(1000, 1000)
	s := sized(4, 6, 4, 16)
	for _, name := range append(named(&s), &s.Name) {
		*name += strings.Repeat("x", 12-len(*name))
	}
	for i := range s.Lines {
		s.Lines[i].Z1, s.Lines[i].Z0 = largest, largest
	}
	for i := range s.Sources {
		s.Sources[i].Emf, s.Sources[i].Z1, s.Sources[i].Z0 = 1000000, largest, largest
	}
	for i := range s.Bays {
		b := &s.Bays[i]
		b.Links, b.Closed, b.Ct, b.Vt, b.Sat, b.Travel = links(closed(i%4), closed((i+1)%4)), false, 100, 10000, 16383, 6
	}
	checkRoundTrip(t, s)
	for i := range s.Bays {
		b := &s.Bays[i]
		b.Kind, b.Of, b.End, b.Vt, b.Z = api.Coupler, 0, 0, 0, largest
	}
	checkRoundTrip(t, s)
}
