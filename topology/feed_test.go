package topology_test

import (
	"fmt"
	"math"
	"slices"
	"testing"

	"substation/api"
	"substation/topology"
)

// feeding is a diagram in a position with what its zones are fed through. The bays of fed are those through which the zones, and no others, are fed.
type feeding struct {
	what     string
	s        api.Station
	position string
	zones    []api.Zone
	fed      []int
}

// check compares Fed of all bays with those of the case.
func (c feeding) check(t *testing.T) {
	t.Helper()
	p := at(c.position)
	mustBeValid(t, c.s, p)
	for bay := -1; bay <= len(c.s.Bays); bay++ {
		expect(t, fmt.Sprintf("P6.4: %s: Fed(%v, %d) at %s", c.what, c.zones, bay, c.position), topology.Fed(c.s, p, c.zones, bay), slices.Contains(c.fed, bay))
	}
}

func TestFed(t *testing.T) {
	one := grid(1, 0, 1, "G0:A")
	// Source, bus A, line, bus B, line, bus C, source.
	chain := grid(3, 2, 2, "G0:A L0.0:A L0.1:B L1.0:B L1.1:C G1:C")
	all := "+c +c +c +c +c +c"
	for _, c := range []feeding{
		{"a source bay", one, "+c", zones(busZone(0)), []int{0}},
		{"an open breaker", one, "-c", zones(busZone(0)), nil},
		{"an open link", one, "+o", zones(busZone(0)), nil},
		{"a moving link", one, "+m", zones(busZone(0)), nil},
		{"nil zones", one, "+c", nil, nil},
		{"no zones", one, "+c", zones(), nil},
		{"no bays", grid(1, 1, 1, ""), "", zones(busZone(0), lineZone(0)), nil},
		{"no source", grid(1, 1, 0, "L0.0:A L0.1:A"), "+c +c", zones(lineZone(0)), nil},
		{"both ends of a line at one bus", grid(1, 1, 1, "L0.0:A G0:A L0.1:A"), "+c +c +c", zones(lineZone(0)), []int{0, 2}},
		{"both ends of a line at one bus", grid(1, 1, 1, "L0.0:A G0:A L0.1:A"), "+c +c +c", zones(busZone(0)), []int{1}},
		{"bus A", chain, all, zones(busZone(0)), []int{0, 1}},
		{"bus B", chain, all, zones(busZone(1)), []int{2, 3}},
		{"bus C", chain, all, zones(busZone(2)), []int{4, 5}},
		{"line 0", chain, all, zones(lineZone(0)), []int{1, 2}},
		{"line 1", chain, all, zones(lineZone(1)), []int{3, 4}},
		{"bus A, C's source is off", chain, "+c +c +c +c +c -c", zones(busZone(0)), []int{0}},
		{"bus B, A's source is off", chain, "-c +c +c +c +c +c", zones(busZone(1)), []int{3}},
		{"bus B, line 0 is off", chain, "+c -c +c +c +c +c", zones(busZone(1)), []int{3}},
		{"bus B, line 0 is open", chain, "+c +o +c +c +c +c", zones(busZone(1)), []int{3}},
		{"bus B, line 1 moves", chain, "+c +c +c +m +c +c", zones(busZone(1)), []int{2}},
		{"bus B, neither source is on", chain, "-c +c +c +c +c -c", zones(busZone(1)), nil},
		{"two zones beside each other", chain, all, zones(busZone(0), lineZone(0)), []int{0, 2}},
		{"two zones, not beside each other", chain, all, zones(busZone(0), busZone(1)), []int{0, 3}},
		{"two zones, not beside each other, in another order", chain, all, zones(busZone(1), busZone(0)), []int{0, 3}},
		{"what lies between two zones", chain, all, zones(lineZone(0), lineZone(1)), []int{1, 4}},
		{"the last zones", chain, all, zones(busZone(2), lineZone(1)), []int{3, 5}},
		{"all but the middle", chain, all, zones(busZone(0), lineZone(0), lineZone(1), busZone(2)), []int{0, 5}},
		{"all", chain, all, zones(busZone(0), lineZone(0), busZone(1), lineZone(1), busZone(2)), []int{0, 5}},
		{"zones that occur twice", chain, all, zones(lineZone(0), busZone(0), lineZone(0), busZone(0), busZone(0)), []int{0, 2}},
		{"a source only through a zone", chain, "+c +c +c +c +c -c", zones(busZone(0), busZone(1)), []int{0}},
		{"a source only through a line", chain, "+c +c +c +c +c -c", zones(lineZone(0), busZone(2)), []int{1}},
	} {
		c.check(t)
		slices.Reverse(c.zones)
		c.check(t)
		c.zones = append(zones(busZone(4), lineZone(-1), api.Zone{Kind: 3}, api.Zone{}), c.zones...)
		c.what += ", and zones that do not exist"
		c.check(t)
		c.zones = append(c.zones, c.zones...)
		c.what += ", twice"
		c.check(t)
	}
}

// TestFedByGroups looks at groups of several buses, and at couplers.
func TestFedByGroups(t *testing.T) {
	// The groups A and C, B, D; the source is at C, the line from D to B.
	s := grid(4, 1, 1, "L0.0:AC G0:CA K:AB K:CD L0.1:B K:AC")
	p := "+cc +co +cc -cc +c +cc"
	for _, bus := range []int{0, 2} {
		feeding{"a group of two buses", s, p, zones(busZone(bus)), []int{1}}.check(t)
	}
	for _, z := range [][]api.Zone{zones(busZone(0), busZone(2)), zones(busZone(2), busZone(0)), zones(busZone(2), busZone(2))} {
		feeding{"a group that is given twice", s, p, z, []int{1}}.check(t)
	}
	feeding{"through a coupler and a line", s, p, zones(busZone(1)), []int{2, 4}}.check(t)
	feeding{"through an open coupler", s, p, zones(busZone(3)), nil}.check(t)
	feeding{"through a closed coupler", s, "+cc +co +cc +cc +c +cc", zones(busZone(3)), []int{3}}.check(t)
	feeding{"a line at a bus without a source", s, "-cc +co -cc -cc +c +cc", zones(lineZone(0)), nil}.check(t)
	feeding{"a line between a bus with a source and one without", s, "+cc +co -cc -cc +c +cc", zones(lineZone(0)), []int{0}}.check(t)
	feeding{"a line with two ways to the source", s, p, zones(lineZone(0)), []int{0, 4}}.check(t)
	feeding{"both sides of a coupler", s, p, zones(busZone(1), busZone(2)), []int{1}}.check(t)
	feeding{"both sides of a coupler, and the line", s, p, zones(lineZone(0), busZone(1), busZone(2)), []int{1}}.check(t)
	feeding{"a bus behind a zone", s, "+cc +co +cc +cc -c +cc", zones(busZone(2), busZone(3)), []int{1}}.check(t)
}

// TestFedThroughOthers looks at sources that are reached over several nodes.
func TestFedThroughOthers(t *testing.T) {
	// From the source at A over line 0 to B, over the coupler to C, over line 1 to D.
	s := grid(4, 2, 1, "L1.1:D L1.0:C K:CB L0.1:B L0.0:A G0:A")
	all := "+c +c +cc +c +c +c"
	for i, c := range []struct {
		zone api.Zone
		bay  int
	}{{busZone(3), 0}, {lineZone(1), 1}, {busZone(2), 2}, {busZone(1), 3}, {lineZone(0), 4}, {busZone(0), 5}} {
		feeding{"a chain", s, all, zones(c.zone), []int{c.bay}}.check(t)
		for open := range 6 {
			position := []byte(all)
			position[[]int{0, 3, 6, 10, 13, 16}[open]] = '-'
			var fed []int
			if open < i {
				fed = []int{c.bay}
			}
			feeding{"a chain with an open breaker", s, string(position), zones(c.zone), fed}.check(t)
		}
	}
}

func TestFedNoBay(t *testing.T) {
	s := grid(2, 1, 1, "G0:A L0.0:A")
	for _, bay := range []int{math.MinInt, -1, 2, 16, math.MaxInt} {
		expect(t, fmt.Sprint("P6.4: Fed through bay ", bay), topology.Fed(s, at("+c +c"), zones(busZone(0)), bay), false)
		expect(t, fmt.Sprint("P6.4: Fed through bay ", bay, " of no zones"), topology.Fed(s, at("+c +c"), nil, bay), false)
	}
}

func TestLive(t *testing.T) {
	chain := grid(3, 2, 2, "G0:A L0.0:A L0.1:B L1.0:B L1.1:C G1:C")
	groups := grid(4, 2, 1, "L0.0:AC G0:CB K:AB K:CD L0.1:D L1.0:B")
	for _, c := range []struct {
		s        api.Station
		position string
		want     []api.Zone
	}{
		{grid(1, 0, 0, ""), "", nil},
		{grid(1, 1, 1, ""), "", nil},
		{grid(1, 0, 1, "G0:A"), "+c", zones(busZone(0))},
		{grid(1, 0, 1, "G0:A"), "-c", nil},
		{grid(1, 0, 1, "G0:A"), "+o", nil},
		{grid(1, 0, 1, "G0:A"), "+m", nil},
		{grid(1, 1, 0, "L0.0:A L0.1:A"), "+c +c", nil},
		{grid(2, 0, 1, "G0:AB"), "+co", zones(busZone(0))},
		{grid(2, 0, 1, "G0:AB"), "+mc", zones(busZone(1))},
		{grid(2, 0, 1, "G0:AB"), "+cc", zones(busZone(0), busZone(1))},
		{grid(2, 0, 1, "G0:AB"), "-cc", nil},
		{chain, "+c +c +c +c +c -c", zones(busZone(0), busZone(1), busZone(2), lineZone(0), lineZone(1))},
		{chain, "-c +c +c +c +c +c", zones(busZone(0), busZone(1), busZone(2), lineZone(0), lineZone(1))},
		{chain, "+c +c +c -c +c -c", zones(busZone(0), busZone(1), lineZone(0))},
		{chain, "+c +c +o +c +c -c", zones(busZone(0), lineZone(0))},
		{chain, "+c -c +c +c +m +c", zones(busZone(0), busZone(2))},
		{chain, "-c +c +c +c +c -c", nil},
		{groups, "+cc +co +cc -cc +c +c", zones(busZone(0), busZone(1), busZone(2), busZone(3), lineZone(0), lineZone(1))},
		{groups, "+cc +co -cc -cc +c +c", zones(busZone(0), busZone(2), busZone(3), lineZone(0))},
		{groups, "-cc +co -cc +cc -c +c", zones(busZone(0), busZone(2), busZone(3))},
		{groups, "-co +oc +cc -cc +c -c", zones(busZone(0), busZone(1))},
	} {
		p := at(c.position)
		mustBeValid(t, c.s, p)
		for bus := range c.s.Buses {
			expect(t, fmt.Sprint("P6.4: Live of bus ", bus, " of ", dump(c.s.Bays), " at ", c.position), topology.Live(c.s, p, busZone(bus)), slices.Contains(c.want, busZone(bus)))
		}
		for i := range c.s.Lines {
			expect(t, fmt.Sprint("P6.4: Live of line ", i, " of ", dump(c.s.Bays), " at ", c.position), topology.Live(c.s, p, lineZone(i)), slices.Contains(c.want, lineZone(i)))
		}
		for _, z := range strangers(c.s) {
			expect(t, "P6.4: Live of "+dump(z), topology.Live(c.s, p, z), false)
		}
	}
}
