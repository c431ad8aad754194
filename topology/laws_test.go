package topology_test

import (
	"math/rand"
	"slices"
	"testing"

	"substation/api"
	"substation/topology"
)

// checkLaws looks at P6.5 for a valid diagram and position.
func checkLaws(t *testing.T, s api.Station, p api.Position) {
	t.Helper()
	mustBeValid(t, s, p)
	for _, z := range topology.Zones(s, p) {
		fed := false
		for _, bay := range topology.Boundary(s, p, z) {
			fed = fed || topology.Fed(s, p, zones(z), bay)
			other, ok := topology.Other(s, p, z, bay)
			if !ok {
				continue
			}
			back, ok := topology.Other(s, p, other, bay)
			if !slices.Contains(topology.Boundary(s, p, other), bay) || back != z || !ok {
				t.Errorf("P6.5: bay %d is between %v and %v, but not between %v and %v, in %s at %s", bay, z, other, other, back, dump(s.Bays), dump(p))
			}
		}
		if topology.Live(s, p, z) != fed {
			t.Errorf("P6.5: %v is fed %t, but not live, or the other way round, in %s at %s", z, fed, dump(s.Bays), dump(p))
		}
	}
	apart := topology.Groups(s, topology.Resolve(p, false))
	joined := topology.Groups(s, topology.Resolve(p, true))
	for a := range apart {
		for b := range apart {
			if apart[a] == apart[b] && joined[a] != joined[b] {
				t.Errorf("P6.5: the buses %d and %d are in one group only if moving links are open, in %s at %s", a, b, dump(s.Bays), dump(p))
			}
		}
	}
	expect(t, "P6.2: Groups with moving links", topology.Groups(s, p), apart)
}

func TestLaws(t *testing.T) {
	s, p := ladder()
	checkLaws(t, s, p)
	r := rand.New(rand.NewSource(2))
	for range 1500 {
		s := randomGrid(r)
		checkLaws(t, s, topology.Normal(s))
		checkLaws(t, s, randomPosition(r, s))
	}
}

func TestExamples(t *testing.T) {
	s := grid(2, 1, 0, "L0.0:AB")
	expect(t, "P6.2: example 1, both links closed", topology.Groups(s, at("+cc")), []int{0, 0})
	expect(t, "P6.2: example 1, the second one moving", topology.Groups(s, at("+cm")), []int{0, 1})
	expect(t, "P6.2: example 1, after Resolve", topology.Groups(s, topology.Resolve(at("+cm"), true)), []int{0, 0})

	s = grid(1, 0, 1, "G0:A")
	for position, want := range map[string]bool{"+c": true, "-c": false} {
		expect(t, "P6.4: example 2, Live at "+position, topology.Live(s, at(position), busZone(0)), want)
		expect(t, "P6.4: example 2, Fed at "+position, topology.Fed(s, at(position), zones(busZone(0)), 0), want)
	}
}
