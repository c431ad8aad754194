package topology_test

import (
	"fmt"
	"math"
	"math/rand"
	"slices"
	"strings"
	"testing"

	"substation/api"
	"substation/station"
	"substation/topology"
)

// grid returns a diagram with the given numbers of buses, lines and sources, and bays that a text describes, such as
//
//	L1.0:AB  the bay of end 0 of line 1, with links to the buses A and B
//	G0:C     the bay of source 0, with a link to bus C
//	K:CA     a coupler from bus C to bus A
//
// All switches are closed.
func grid(buses, lines, sources int, bays string) api.Station {
	z := api.Impedance{R: 1, X: 2}
	s := api.Station{Name: "S"}
	for i := range buses {
		s.Buses = append(s.Buses, fmt.Sprint("B", i))
	}
	for i := range lines {
		s.Lines = append(s.Lines, api.Line{Name: fmt.Sprint("L", i), Z1: z, Z0: z})
	}
	for i := range sources {
		s.Sources = append(s.Sources, api.Source{Name: fmt.Sprint("G", i), Emf: 100, Z1: z, Z0: z})
	}
	for i, text := range strings.Fields(bays) {
		b := api.Bay{Name: fmt.Sprint("Q", i), Closed: true, Ct: 1, Vt: 1, Travel: 1}
		object, links, _ := strings.Cut(text, ":")
		switch object[0] {
		case 'L':
			b.Kind, b.Of, b.End = api.LineBay, int(object[1]-'0'), int(object[3]-'0')
		case 'G':
			b.Kind, b.Of = api.SourceBay, int(object[1]-'0')
		case 'K':
			b.Kind, b.Z, b.Vt = api.Coupler, z, 0
		}
		for _, bus := range links {
			b.Links = append(b.Links, api.Link{Bus: int(bus - 'A'), Pos: api.Closed})
		}
		s.Bays = append(s.Bays, b)
	}
	return s
}

// at returns the position that a text describes: for each bay + or - for a breaker that is closed or open, and then c, o or m for each link that is closed, open or moving.
func at(text string) api.Position {
	var p api.Position
	for _, bay := range strings.Fields(text) {
		links := []int{}
		for _, c := range bay[1:] {
			links = append(links, map[rune]int{'o': api.Open, 'c': api.Closed, 'm': api.Moving}[c])
		}
		p.Closed = append(p.Closed, bay[0] == '+')
		p.Links = append(p.Links, links)
	}
	return p
}

// allClosed returns the position of a diagram of any kind in which all switches are closed.
func allClosed(s api.Station) api.Position {
	var p api.Position
	for _, b := range s.Bays {
		p.Closed = append(p.Closed, true)
		p.Links = append(p.Links, slices.Repeat([]int{api.Closed}, len(b.Links)))
	}
	return p
}

func group(bus int) topology.Node    { return topology.Node{Kind: topology.GroupNode, Of: bus} }
func line(of int) topology.Node      { return topology.Node{Kind: topology.LineNode, Of: of} }
func source(of int) topology.Node    { return topology.Node{Kind: topology.SourceNode, Of: of} }
func busZone(bus int) api.Zone       { return api.Zone{Kind: api.BusZone, Of: bus} }
func lineZone(of int) api.Zone       { return api.Zone{Kind: api.LineZone, Of: of} }
func zones(l ...api.Zone) []api.Zone { return l }

// strangers returns zones that a diagram does not have.
func strangers(s api.Station) []api.Zone {
	l := zones(busZone(len(s.Buses)), lineZone(len(s.Lines)))
	for _, of := range []int{-1, math.MinInt, math.MaxInt} {
		l = append(l, busZone(of), lineZone(of))
	}
	for _, kind := range []int{0, 3, -1, math.MinInt, math.MaxInt} {
		l = append(l, api.Zone{Kind: kind}, api.Zone{Kind: kind, Of: 1})
	}
	return l
}

// dump returns a value as a text in which nil and empty lists are equal.
func dump(x any) string { return fmt.Sprintf("%+v", x) }

// clonePosition returns a copy of a position that shares no memory with it.
func clonePosition(p api.Position) api.Position {
	p.Closed, p.Links = slices.Clone(p.Closed), slices.Clone(p.Links)
	for i := range p.Links {
		p.Links[i] = slices.Clone(p.Links[i])
	}
	return p
}

// cloneStation returns a copy of a diagram that shares no memory with it.
func cloneStation(s api.Station) api.Station {
	s.Buses, s.Lines, s.Sources, s.Bays = slices.Clone(s.Buses), slices.Clone(s.Lines), slices.Clone(s.Sources), slices.Clone(s.Bays)
	for i := range s.Bays {
		s.Bays[i].Links = slices.Clone(s.Bays[i].Links)
	}
	return s
}

// mustBeValid fails if a test's own diagram or position is not valid.
func mustBeValid(t *testing.T, s api.Station, p api.Position) {
	t.Helper()
	if e := station.Check(s); e != api.OK {
		t.Fatalf("the test's diagram %s has error %d", dump(s), e)
	}
	if e := topology.Check(s, p); e != api.OK {
		t.Fatalf("P6.1: Check of %s = %d", dump(p), e)
	}
}

// expect fails if got is not want, where nil and empty lists are equal. The text begins with the promise.
func expect(t *testing.T, what string, got, want any) {
	t.Helper()
	if dump(got) != dump(want) {
		t.Errorf("%s = %s, not %s", what, dump(got), dump(want))
	}
}

// pick returns one of the elements of a list.
func pick[T any](r *rand.Rand, l ...T) T { return l[r.Intn(len(l))] }

// randomGrid returns a valid diagram with bays in any order.
func randomGrid(r *rand.Rand) api.Station {
	buses, lines, sources := 1+r.Intn(api.MaxBuses), r.Intn(api.MaxLines+1), r.Intn(api.MaxSources+1)
	var bays []string
	for i := range 2 * lines {
		bays = append(bays, fmt.Sprintf("L%d.%d:", i/2, i%2))
	}
	for i := range sources {
		bays = append(bays, fmt.Sprintf("G%d:", i))
	}
	if buses > 1 {
		for range r.Intn(4) {
			bays = append(bays, "K:")
		}
	}
	r.Shuffle(len(bays), func(i, k int) { bays[i], bays[k] = bays[k], bays[i] })
	bays = bays[:min(api.MaxBays, pick(r, len(bays), r.Intn(len(bays)+1)))]
	twoLinks := r.Intn(4)
	for i := range bays {
		bus := r.Perm(buses)
		n := 1
		if bays[i] == "K:" || buses > 1 && r.Intn(3) < twoLinks {
			n = 2
		}
		for _, k := range bus[:n] {
			bays[i] += string(rune('A' + k))
		}
	}
	s := grid(buses, lines, sources, strings.Join(bays, " "))
	for i, b := range s.Bays {
		s.Bays[i].Closed = r.Intn(2) == 0
		for k := range b.Links {
			if b.Kind != api.Coupler {
				s.Bays[i].Links[k].Pos = r.Intn(2)
			}
		}
	}
	return s
}

// randomPosition returns a valid position of a diagram.
func randomPosition(r *rand.Rand, s api.Station) api.Position {
	links := pick(r, "com", "ccco", "cccm", "ccccccoom", "ooocm", "c")
	breakers := pick(r, "+-", "+++++-", "+", "---+")
	var text []string
	for _, b := range s.Bays {
		bay := string(breakers[r.Intn(len(breakers))])
		for range b.Links {
			if b.Kind == api.Coupler {
				bay += "c"
			} else {
				bay += string(links[r.Intn(len(links))])
			}
		}
		text = append(text, bay)
	}
	return at(strings.Join(text, " "))
}
