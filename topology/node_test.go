package topology_test

import (
	"fmt"
	"math"
	"testing"

	"substation/api"
	"substation/topology"
)

func TestGroups(t *testing.T) {
	four := func(bays string) api.Station { return grid(4, 6, 4, bays) }
	for _, c := range []struct {
		s        api.Station
		position string
		want     []int
	}{
		{grid(1, 0, 0, ""), "", []int{0}},
		{grid(3, 0, 0, ""), "", []int{0, 1, 2}},
		{four("L0.0:AB"), "+cc", []int{0, 0, 2, 3}},
		{four("L0.0:BA"), "+cc", []int{0, 0, 2, 3}},
		{four("L5.1:DB"), "+cc", []int{0, 1, 2, 1}},
		{four("G3:CD"), "+cc", []int{0, 1, 2, 2}},
		// The breaker does not matter.
		{four("G3:CD"), "-cc", []int{0, 1, 2, 2}},
		{four("L0.0:AD"), "-cc", []int{0, 1, 2, 0}},
		// One closed link, none, and links that are moving.
		{four("L0.0:AB"), "+co", []int{0, 1, 2, 3}},
		{four("L0.0:AB"), "+oc", []int{0, 1, 2, 3}},
		{four("L0.0:AB"), "+oo", []int{0, 1, 2, 3}},
		{four("L0.0:AB"), "+cm", []int{0, 1, 2, 3}},
		{four("L0.0:AB"), "+mc", []int{0, 1, 2, 3}},
		{four("L0.0:AB"), "+mm", []int{0, 1, 2, 3}},
		{four("L0.0:AB G0:AB"), "+cm +cc", []int{0, 0, 2, 3}},
		{four("L0.0:AB G0:AB"), "+oc +co", []int{0, 1, 2, 3}},
		// Bays with one link.
		{four("L0.0:A L0.1:B G0:A G1:B"), "+c +c +c +c", []int{0, 1, 2, 3}},
		// Couplers.
		{four("K:AB"), "+cc", []int{0, 1, 2, 3}},
		{four("K:AB K:BC K:CD"), "+cc +cc +cc", []int{0, 1, 2, 3}},
		{four("K:AB L0.0:BC"), "+cc +cc", []int{0, 1, 1, 3}},
		{four("L0.0:AB K:BC L0.1:CD"), "+cc +cc +cc", []int{0, 0, 2, 2}},
		// Through other buses.
		{four("L0.0:AB L0.1:BC"), "+cc +cc", []int{0, 0, 0, 3}},
		{four("L0.0:CB L0.1:BA"), "+cc +cc", []int{0, 0, 0, 3}},
		{four("L0.0:AC G0:CB"), "+cc +cc", []int{0, 0, 0, 3}},
		{four("L0.0:DC G0:DB"), "+cc +cc", []int{0, 1, 1, 1}},
		{four("L0.0:AB L0.1:CD"), "+cc +cc", []int{0, 0, 2, 2}},
		{four("L0.0:AC L0.1:BD"), "+cc +cc", []int{0, 1, 0, 1}},
		{four("L0.0:AD L0.1:CB"), "+cc +cc", []int{0, 1, 1, 0}},
		{four("L0.0:AB L0.1:BC L1.0:CD"), "+cc +cc +cc", []int{0, 0, 0, 0}},
		{four("L0.0:DC L0.1:BA L1.0:CB"), "+cc +cc +cc", []int{0, 0, 0, 0}},
		{four("L0.0:AB G0:CD L1.0:BD"), "+cc +cc +cc", []int{0, 0, 0, 0}},
		{four("L0.0:CD G0:AB L1.0:AD"), "+cc +cc +cc", []int{0, 0, 0, 0}},
		{four("L0.0:AD L0.1:DB G0:BC"), "+cc +cc +cc", []int{0, 0, 0, 0}},
		{four("L0.0:AB L0.1:BC L1.0:CD"), "+cc +cm +cc", []int{0, 0, 2, 2}},
		// Twice, and in a circle.
		{four("L0.0:AB L0.1:AB G0:BA"), "+cc +cc +cc", []int{0, 0, 2, 3}},
		{four("L0.0:AB L0.1:BC G0:CA"), "+cc +cc +cc", []int{0, 0, 0, 3}},
	} {
		p := at(c.position)
		mustBeValid(t, c.s, p)
		expect(t, "P6.2: Groups of "+dump(c.s.Bays)+" at "+c.position, topology.Groups(c.s, p), c.want)
	}
}

func TestSides(t *testing.T) {
	four := func(bays string) api.Station { return grid(4, 6, 4, bays) }
	none := topology.Node{}
	for _, c := range []struct {
		s        api.Station
		position string
		want     []topology.Node
	}{
		{four("L3.1:C"), "+c", []topology.Node{group(2), line(3)}},
		{four("L3.1:C"), "-c", []topology.Node{group(2), line(3)}},
		{four("L3.1:C"), "+o", []topology.Node{none, line(3)}},
		{four("L3.1:C"), "+m", []topology.Node{none, line(3)}},
		{four("G2:D"), "-c", []topology.Node{group(3), source(2)}},
		{four("G2:D"), "+o", []topology.Node{none, source(2)}},
		{four("G2:D"), "-m", []topology.Node{none, source(2)}},
		{four("L0.0:DB"), "+cc", []topology.Node{group(1), line(0)}},
		{four("L0.0:DB"), "+co", []topology.Node{group(3), line(0)}},
		{four("L0.0:DB"), "+cm", []topology.Node{group(3), line(0)}},
		{four("L0.0:DB"), "+oc", []topology.Node{group(1), line(0)}},
		{four("L0.0:DB"), "+mc", []topology.Node{group(1), line(0)}},
		{four("L0.0:DB"), "+om", []topology.Node{none, line(0)}},
		{four("L0.0:DB"), "+mm", []topology.Node{none, line(0)}},
		{four("L0.0:DB"), "-oo", []topology.Node{none, line(0)}},
		{four("G3:BD"), "+co", []topology.Node{group(1), source(3)}},
		{four("G3:BD"), "+oc", []topology.Node{group(3), source(3)}},
		{four("G3:BD"), "+mo", []topology.Node{none, source(3)}},
		{four("K:DB"), "+cc", []topology.Node{group(3), group(1)}},
		{four("K:BD"), "-cc", []topology.Node{group(1), group(3)}},
		// Groups of several buses.
		{four("L1.0:D G0:DB"), "+c +cc", []topology.Node{group(1), line(1)}},
		{four("L1.0:CD G0:DA"), "+oc +cc", []topology.Node{group(0), line(1)}},
		{four("L1.0:CD G0:DA"), "+co +cc", []topology.Node{group(2), line(1)}},
		{four("G1:CD L0.0:DB L1.0:BA"), "+mc +cc +cc", []topology.Node{group(0), source(1)}},
		{four("K:CD L0.0:DB"), "+cc +cc", []topology.Node{group(2), group(1)}},
		{four("K:CD L0.0:DC"), "+cc +cc", []topology.Node{group(2), group(2)}},
		{four("K:DC L0.0:DA L0.1:AC"), "-cc +cc +cc", []topology.Node{group(0), group(0)}},
	} {
		p := at(c.position)
		mustBeValid(t, c.s, p)
		expect(t, "P6.2: Sides of the first of "+dump(c.s.Bays)+" at "+c.position, topology.Sides(c.s, p, 0), c.want)
	}
}

func TestSidesOfNoBay(t *testing.T) {
	s := mixed()
	p := topology.Normal(s)
	for _, bay := range []int{-1, -2, 6, 7, 16, math.MinInt, math.MaxInt} {
		expect(t, fmt.Sprint("P6.2: Sides of bay ", bay), topology.Sides(s, p, bay), [2]topology.Node{})
	}
	expect(t, "P6.2: Sides of the last bay", topology.Sides(s, p, 5), [2]topology.Node{group(0), group(0)})
	expect(t, "P6.2: Sides without bays", topology.Sides(grid(1, 1, 1, ""), api.Position{}, 0), [2]topology.Node{})
}
