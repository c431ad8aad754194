package topology_test

import (
	"fmt"
	"testing"

	"substation/api"
	"substation/station"
	"substation/topology"
)

// invalidDiagrams returns diagrams with one error each. Without it they are mixed.
func invalidDiagrams() map[string]api.Station {
	all := map[string]api.Station{}
	for what, change := range map[string]func(s *api.Station){
		"no name":                        func(s *api.Station) { s.Name = "" },
		"a name with a blank":            func(s *api.Station) { s.Name = "a b" },
		"no buses":                       func(s *api.Station) { s.Buses = nil },
		"too many buses":                 func(s *api.Station) { s.Buses = []string{"B0", "B1", "B2", "B3", "B4"} },
		"too many lines":                 func(s *api.Station) { s.Lines = grid(1, 7, 0, "").Lines },
		"too many sources":               func(s *api.Station) { s.Sources = grid(1, 0, 5, "").Sources },
		"a bus with a wrong name":        func(s *api.Station) { s.Buses[2] = "2" },
		"a bus with a line's name":       func(s *api.Station) { s.Buses[2] = "L0" },
		"a line without a reactance":     func(s *api.Station) { s.Lines[1].Z0.X = 0 },
		"a source without a force":       func(s *api.Station) { s.Sources[1].Emf = 0 },
		"a bay with another's name":      func(s *api.Station) { s.Bays[5].Name = "Q4" },
		"a bay of no kind":               func(s *api.Station) { s.Bays[4].Kind = 0 },
		"a bay of kind 4":                func(s *api.Station) { s.Bays[4].Kind = 4 },
		"a bay of no line":               func(s *api.Station) { s.Bays[3].Of = 2 },
		"a bay of source -1":             func(s *api.Station) { s.Bays[4].Of = -1 },
		"a coupler of something":         func(s *api.Station) { s.Bays[5].Of = 1 },
		"a bay at a third end":           func(s *api.Station) { s.Bays[3].End = 2 },
		"a coupler without an impedance": func(s *api.Station) { s.Bays[5].Z = api.Impedance{} },
		"a bay without a ratio":          func(s *api.Station) { s.Bays[0].Ct = 0 },
		"a bay without a travel":         func(s *api.Station) { s.Bays[0].Travel = 0 },
		"two bays at one end":            func(s *api.Station) { s.Bays[3].Of, s.Bays[3].End = 0, 0 },
		"two bays of a source":           func(s *api.Station) { s.Bays[4].Of = 1 },
		"a bay without links":            func(s *api.Station) { s.Bays[4].Links = nil },
		"a bay with three links":         func(s *api.Station) { s.Bays[0].Links = append(s.Bays[0].Links, api.Link{Bus: 2}) },
		"a coupler with one link":        func(s *api.Station) { s.Bays[5].Links = s.Bays[5].Links[:1] },
		"a coupler with three links": func(s *api.Station) {
			s.Bays[5].Links = append(s.Bays[5].Links, api.Link{Bus: 2, Pos: api.Closed})
		},
		"a link to bus 3":                 func(s *api.Station) { s.Bays[3].Links[0].Bus = 3 },
		"a link to bus -1":                func(s *api.Station) { s.Bays[3].Links[0].Bus = -1 },
		"a link that normally moves":      func(s *api.Station) { s.Bays[3].Links[0].Pos = api.Moving },
		"a coupler that is normally open": func(s *api.Station) { s.Bays[5].Links[1].Pos = api.Open },
		"two links to one bus":            func(s *api.Station) { s.Bays[0].Links[1].Bus = 0 },
		"too many bays": func(s *api.Station) {
			for i := range 11 {
				b := s.Bays[5]
				b.Name = fmt.Sprint("R", i)
				s.Bays = append(s.Bays, b)
			}
		},
	} {
		s := mixed()
		change(&s)
		all[what] = s
	}
	return all
}

// expectNothing fails if a function returns anything but zero values.
func expectNothing(t *testing.T, what string, s api.Station, p api.Position) {
	t.Helper()
	expect(t, "P6.2: Groups with "+what, topology.Groups(s, p), []int{})
	expect(t, "P6.3: Zones with "+what, topology.Zones(s, p), []api.Zone{})
	for bay := -1; bay <= len(s.Bays); bay++ {
		expect(t, fmt.Sprint("P6.2: Sides of ", bay, " with ", what), topology.Sides(s, p, bay), [2]topology.Node{})
		far, ok := topology.Far(s, p, bay)
		expect(t, fmt.Sprint("P6.3: Far of ", bay, " with ", what), fmt.Sprint(far, ok), "0 false")
		for of := -1; of < 5; of++ {
			for _, z := range zones(busZone(of), lineZone(of)) {
				expect(t, fmt.Sprint("P6.3: Boundary of ", z, " with ", what), topology.Boundary(s, p, z), []int{})
				other, ok := topology.Other(s, p, z, bay)
				expect(t, fmt.Sprint("P6.3: Other of ", z, bay, " with ", what), fmt.Sprint(other, ok), "{0 0} false")
				expect(t, fmt.Sprint("P6.4: Fed of ", z, bay, " with ", what), topology.Fed(s, p, zones(z), bay), false)
				expect(t, fmt.Sprint("P6.4: Live of ", z, " with ", what), topology.Live(s, p, z), false)
			}
		}
	}
}

func TestInvalidDiagrams(t *testing.T) {
	for what, s := range invalidDiagrams() {
		if station.Check(s) == api.OK {
			t.Fatalf("the test's diagram with %s is valid", what)
		}
		expect(t, "P6.1: Normal with "+what, topology.Normal(s), api.Position{})
		p := allClosed(s)
		expectNothing(t, what, s, p)
		expectNothing(t, what+" and no position", s, api.Position{})
		expectNothing(t, what+" and the position without the error", s, topology.Normal(mixed()))
	}
	expectNothing(t, "no diagram", api.Station{}, api.Position{})
	expectNothing(t, "a position without a diagram", api.Station{}, topology.Normal(mixed()))
}

func TestInvalidPositions(t *testing.T) {
	s := mixed()
	good := topology.Normal(s)
	mustBeValid(t, s, good)
	for what, change := range map[string]func(p *api.Position){
		"nothing":                     func(p *api.Position) { *p = api.Position{} },
		"empty lists":                 func(p *api.Position) { *p = api.Position{Closed: []bool{}, Links: [][]int{}} },
		"no breakers":                 func(p *api.Position) { p.Closed = nil },
		"a breaker too few":           func(p *api.Position) { p.Closed = p.Closed[:5] },
		"a breaker too many":          func(p *api.Position) { p.Closed = append(p.Closed, true) },
		"no links":                    func(p *api.Position) { p.Links = nil },
		"the links of a bay too few":  func(p *api.Position) { p.Links = p.Links[:5] },
		"the links of a bay too many": func(p *api.Position) { p.Links = append(p.Links, nil) },
		"a bay without links":         func(p *api.Position) { p.Links[3] = nil },
		"a link too few":              func(p *api.Position) { p.Links[0] = p.Links[0][:1] },
		"a link too many":             func(p *api.Position) { p.Links[4] = append(p.Links[4], api.Closed) },
		"a coupler's link too few":    func(p *api.Position) { p.Links[5] = p.Links[5][:1] },
		"a coupler's link too many":   func(p *api.Position) { p.Links[5] = append(p.Links[5], api.Closed) },
		"position 3":                  func(p *api.Position) { p.Links[0][1] = 3 },
		"position -1":                 func(p *api.Position) { p.Links[4][0] = -1 },
		"an open coupler":             func(p *api.Position) { p.Links[5][0] = api.Open },
		"a moving coupler":            func(p *api.Position) { p.Links[2][1] = api.Moving },
	} {
		p := clonePosition(good)
		change(&p)
		expectNothing(t, what, s, p)
	}
}
