package topology_test

import (
	"fmt"
	"math"
	"testing"

	"substation/api"
	"substation/topology"
)

func TestZones(t *testing.T) {
	for _, c := range []struct {
		s        api.Station
		position string
		want     []api.Zone
	}{
		{grid(1, 0, 0, ""), "", zones(busZone(0))},
		{grid(1, 0, 4, "G0:A"), "+c", zones(busZone(0))},
		{grid(4, 2, 1, ""), "", zones(busZone(0), busZone(1), busZone(2), busZone(3), lineZone(0), lineZone(1))},
		{grid(3, 1, 0, "L0.0:BC"), "+cc", zones(busZone(0), busZone(1), lineZone(0))},
		{grid(3, 1, 0, "L0.0:CA"), "-cc", zones(busZone(0), busZone(1), lineZone(0))},
		{grid(4, 6, 0, "L0.0:AB L0.1:BC L3.0:CD"), "-cc +cc +cc", zones(busZone(0), lineZone(0), lineZone(1), lineZone(2), lineZone(3), lineZone(4), lineZone(5))},
		{grid(4, 0, 2, "G0:CD K:AB G1:BD"), "-cc +cc +mc", zones(busZone(0), busZone(1), busZone(2))},
	} {
		p := at(c.position)
		mustBeValid(t, c.s, p)
		expect(t, "P6.3: Zones of "+dump(c.s.Bays)+" at "+c.position, topology.Zones(c.s, p), c.want)
	}
}

// ladder is a diagram with the groups A, B and D (joined by bay 3), and C.
func ladder() (api.Station, api.Position) {
	s := grid(4, 3, 3, "K:AB L0.1:A G0:DB L1.0:BD K:BD L0.0:CD G1:A K:DC G2:C L2.1:BA")
	return s, at("+cc -c +co +cc +cc +oc -c -cc +m +oo")
}

func TestBoundary(t *testing.T) {
	s, p := ladder()
	mustBeValid(t, s, p)
	for _, c := range []struct {
		z    api.Zone
		want []int
	}{
		{busZone(0), []int{0, 1, 6}},
		{busZone(1), []int{0, 2, 3, 5, 7}},
		{busZone(2), []int{7}},
		{busZone(3), []int{0, 2, 3, 5, 7}},
		{lineZone(0), []int{1, 5}},
		{lineZone(1), []int{3}},
		{lineZone(2), nil},
	} {
		expect(t, "P6.3: Boundary of "+dump(c.z), topology.Boundary(s, p, c.z), c.want)
	}
	for _, z := range strangers(s) {
		expect(t, "P6.3: Boundary of "+dump(z), topology.Boundary(s, p, z), []int{})
	}
}

func TestOther(t *testing.T) {
	s, p := ladder()
	type side struct {
		z    api.Zone
		bay  int
		want api.Zone
	}
	sides := map[string]api.Zone{}
	for _, c := range []side{
		{busZone(0), 0, busZone(1)}, {busZone(0), 1, lineZone(0)},
		{busZone(1), 0, busZone(0)}, {busZone(1), 3, lineZone(1)}, {busZone(1), 5, lineZone(0)}, {busZone(1), 7, busZone(2)},
		{busZone(3), 0, busZone(0)}, {busZone(3), 3, lineZone(1)}, {busZone(3), 5, lineZone(0)}, {busZone(3), 7, busZone(2)},
		{busZone(2), 7, busZone(1)},
		{lineZone(0), 1, busZone(0)}, {lineZone(0), 5, busZone(1)},
		{lineZone(1), 3, busZone(1)},
	} {
		sides[fmt.Sprint(c.z, c.bay)] = c.want
	}
	all := append(strangers(s), busZone(0), busZone(1), busZone(2), busZone(3), lineZone(0), lineZone(1), lineZone(2))
	for _, z := range all {
		for _, bay := range []int{math.MinInt, -1, 0, 1, 2, 3, 4, 5, 6, 7, 8, 9, 10, 11, math.MaxInt} {
			want, there := sides[fmt.Sprint(z, bay)]
			got, ok := topology.Other(s, p, z, bay)
			if got != want || ok != there {
				t.Errorf("P6.3: Other(%v, %d) = %v, %t; want %v, %t", z, bay, got, ok, want, there)
			}
		}
	}
}

func TestFar(t *testing.T) {
	s := grid(2, 4, 3, "G1:A L2.0:A K:AB L0.1:B L2.1:AB G0:A L1.0:A L0.0:A G2:B L3.1:B")
	want := map[int]int{0: 0, 1: 4, 2: 2, 3: 7, 4: 1, 5: 5, 7: 3, 8: 8}
	for _, position := range []string{"+c +c +cc +c +cc +c +c +c +c +c", "-o -o -cc -o -oo -o -o -o -o -o", "-m +m +cc -o +mm +o -c +c -c +m"} {
		p := at(position)
		mustBeValid(t, s, p)
		for _, bay := range []int{math.MinInt, -1, 0, 1, 2, 3, 4, 5, 6, 7, 8, 9, 10, 11, math.MaxInt} {
			far, there := want[bay]
			got, ok := topology.Far(s, p, bay)
			if got != far || ok != there {
				t.Errorf("P6.3: Far of bay %d of %s = %d, %t; want %d, %t", bay, position, got, ok, far, there)
			}
		}
	}
	got, ok := topology.Far(grid(1, 1, 1, ""), api.Position{}, 0)
	if got != 0 || ok {
		t.Errorf("P6.3: Far without bays = %d, %t", got, ok)
	}
}
