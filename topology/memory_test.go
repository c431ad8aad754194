package topology_test

import (
	"fmt"
	"math"
	"math/rand"
	"slices"
	"testing"

	"substation/api"
	"substation/topology"
)

// memory is a set of places of memory of some lists, including their spare capacity.
type memory map[any]bool

// occupy adds the places of a list, and returns whether none of them was there before.
func occupy[T any](m memory, l []T) bool {
	ok := true
	l = l[:cap(l)]
	for i := range l {
		ok = ok && !m[&l[i]]
		m[&l[i]] = true
	}
	return ok
}

// addPosition adds the places of a position.
func (m memory) addPosition(p api.Position) bool {
	ok := occupy(m, p.Closed)
	ok = occupy(m, p.Links) && ok
	for _, l := range p.Links {
		ok = occupy(m, l) && ok
	}
	return ok
}

// randomMatter returns a diagram and a position, some of them with errors.
func randomMatter(r *rand.Rand) (api.Station, api.Position) {
	s := randomGrid(r)
	p := randomPosition(r, s)
	if n := len(s.Bays); n > 0 {
		switch r.Intn(6) {
		case 0:
			s.Bays[r.Intn(n)].Travel = 0
		case 1:
			p.Links[r.Intn(n)][0] = pick(r, -1, 3)
		case 2:
			p.Closed = p.Closed[1:]
		case 3:
			p.Links = append(p.Links, []int{api.Moving}, nil)
		}
	}
	return s, p
}

// TestResults looks at P2 and P3: the results of two calls are equal, and no memory is shared within a result, between two results, or with an argument.
func TestResults(t *testing.T) {
	r := rand.New(rand.NewSource(4))
	for range 500 {
		s, p := randomMatter(r)
		m := memory{}
		m.addPosition(p)
		l := randomZones(r)
		occupy(m, l)
		var before string
		for n := range 2 {
			normal, open, closed := topology.Normal(s), topology.Resolve(p, false), topology.Resolve(p, true)
			groups, all := topology.Groups(s, p), topology.Zones(s, p)
			text := dump(topology.Check(s, p)) + dump(normal) + dump(open) + dump(closed) + dump(groups) + dump(all)
			ok := m.addPosition(normal)
			ok = m.addPosition(open) && ok
			ok = m.addPosition(closed) && ok
			ok = occupy(m, groups) && ok
			ok = occupy(m, all) && ok
			for _, z := range append(all, l...) {
				around := topology.Boundary(s, p, z)
				ok = occupy(m, around) && ok
				text += dump(around) + dump(topology.Live(s, p, z))
				for bay := range s.Bays {
					other, found := topology.Other(s, p, z, bay)
					far, there := topology.Far(s, p, bay)
					text += fmt.Sprint(other, found, far, there, topology.Sides(s, p, bay), topology.Fed(s, p, l, bay))
				}
			}
			if !ok {
				t.Fatalf("P2: memory of %s and %s is shared", dump(s), dump(p))
			}
			if n > 0 && text != before {
				t.Fatalf("P3: another result for %s and %s", dump(s), dump(p))
			}
			before = text
		}
	}
}

// roomy returns copies of a diagram and a position, with something in the spare capacity of all lists.
func roomy(s api.Station, p api.Position) (api.Station, api.Position) {
	s, p = cloneStation(s), clonePosition(p)
	for i, b := range s.Bays {
		s.Bays[i].Links = append(b.Links, api.Link{Bus: 3, Pos: 2}, api.Link{})[:len(b.Links)]
	}
	s.Buses = append(s.Buses, "x", "")[:len(s.Buses)]
	s.Lines = append(s.Lines, api.Line{Name: "x"}, api.Line{})[:len(s.Lines)]
	s.Sources = append(s.Sources, api.Source{Name: "x"}, api.Source{})[:len(s.Sources)]
	s.Bays = append(s.Bays, api.Bay{Name: "x"}, api.Bay{})[:len(s.Bays)]
	for i, l := range p.Links {
		p.Links[i] = append(l, api.Moving, 7)[:len(l)]
	}
	p.Closed = append(p.Closed, true, false)[:len(p.Closed)]
	p.Links = append(p.Links, []int{api.Moving}, nil)[:len(p.Links)]
	return s, p
}

// full returns all that the memory of a diagram and a position contains, including the spare capacity of their lists.
func full(s api.Station, p api.Position) string {
	text := fmt.Sprintf("%q %q %v %v %v", s.Name, s.Buses[:cap(s.Buses)], s.Lines[:cap(s.Lines)], s.Sources[:cap(s.Sources)], p.Closed[:cap(p.Closed)])
	for _, b := range s.Bays[:cap(s.Bays)] {
		text += fmt.Sprint(b, b.Links[:cap(b.Links)])
	}
	for _, l := range p.Links[:cap(p.Links)] {
		text += fmt.Sprint(l[:cap(l)])
	}
	return text
}

// callAll calls all functions.
func callAll(s api.Station, p api.Position, l []api.Zone, bays ...int) {
	topology.Normal(s)
	topology.Check(s, p)
	topology.Resolve(p, false)
	topology.Resolve(p, true)
	topology.Groups(s, p)
	topology.Zones(s, p)
	for _, bay := range bays {
		topology.Sides(s, p, bay)
		topology.Far(s, p, bay)
		topology.Fed(s, p, l, bay)
		for _, z := range l {
			topology.Other(s, p, z, bay)
		}
	}
	for _, z := range l {
		topology.Boundary(s, p, z)
		topology.Live(s, p, z)
	}
}

// TestArguments looks at P2: calls change neither their arguments nor what lies behind them, and a result may be changed without changing them.
func TestArguments(t *testing.T) {
	r := rand.New(rand.NewSource(5))
	for range 500 {
		s, p := roomy(randomMatter(r))
		l := append(randomZones(r), busZone(0))
		l = append(l, lineZone(0), api.Zone{Kind: 9})[:len(l)]
		before, beforeZones := full(s, p), dump(l[:cap(l)])
		callAll(s, p, l, -1, 0, 1, 2, 15, 16)
		for _, q := range []api.Position{topology.Normal(s), topology.Resolve(p, true), topology.Resolve(p, false)} {
			for _, links := range append(q.Links, topology.Groups(s, p), topology.Boundary(s, p, l[0])) {
				for i := range links {
					links[i] = 99
				}
				_ = append(links, 99)
			}
			for i := range q.Closed {
				q.Closed[i] = !q.Closed[i]
			}
			_, _ = append(q.Closed, true), append(q.Links, []int{99})
		}
		if full(s, p) != before || dump(l[:cap(l)]) != beforeZones {
			t.Fatalf("P2: a call has changed its arguments: %s", before)
		}
	}
}

// TestAnyArguments looks at P1 with arguments for which nothing else is promised.
func TestAnyArguments(t *testing.T) {
	numbers := []int{0, 1, 2, 3, -1, 1000, math.MinInt, math.MaxInt}
	many := slices.Repeat(zones(busZone(0), lineZone(0), api.Zone{}), 20)
	for _, n := range numbers {
		l := append(many, api.Zone{Kind: n, Of: n}, busZone(n), lineZone(n))
		for _, k := range numbers {
			b := api.Bay{Name: "Q", Kind: k, Of: n, End: n, Links: []api.Link{{Bus: n, Pos: k}, {Bus: k, Pos: n}}, Ct: n, Vt: n, Travel: n}
			s := api.Station{Name: "S", Buses: []string{"A", "B"}, Bays: []api.Bay{b, {}, b}}
			p := api.Position{Closed: []bool{true, false, true}, Links: [][]int{{n, k}, nil, {k, n, n}}}
			callAll(s, p, l, n, k)
			callAll(api.Station{}, p, l, n, k)
			callAll(s, api.Position{}, l, n, k)
			callAll(mixed(), p, l, n, k)
			callAll(mixed(), topology.Normal(mixed()), l, n, k)
		}
	}
}
