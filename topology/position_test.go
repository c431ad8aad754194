package topology_test

import (
	"fmt"
	"math"
	"math/rand"
	"testing"

	"substation/api"
	"substation/topology"
)

// mixed is a diagram with bays of all kinds, with one and with two links.
func mixed() api.Station {
	return grid(3, 2, 2, "L0.0:AB G1:CA K:BC L1.1:C G0:B K:AB")
}

func TestNormal(t *testing.T) {
	s := mixed()
	expect(t, "P6.1: Normal with all switches closed", topology.Normal(s), at("+cc +cc +cc +c +c +cc"))
	s.Bays[0].Closed, s.Bays[0].Links[1].Pos = false, api.Open
	s.Bays[1].Links[0].Pos, s.Bays[1].Links[1].Pos = api.Open, api.Open
	s.Bays[3].Links[0].Pos = api.Open
	s.Bays[4].Closed = false
	s.Bays[5].Closed = false
	expect(t, "P6.1: Normal", topology.Normal(s), at("-co +oo +cc +o -c -cc"))
	expect(t, "P6.1: Normal without bays", topology.Normal(grid(1, 0, 0, "")), api.Position{})
	expect(t, "P6.1: Normal of nothing", topology.Normal(api.Station{}), api.Position{})
}

func TestNormalIsValid(t *testing.T) {
	r := rand.New(rand.NewSource(1))
	for range 2000 {
		s := randomGrid(r)
		p := topology.Normal(s)
		mustBeValid(t, s, p)
		for i, b := range s.Bays {
			ok := p.Closed[i] == b.Closed
			for k, link := range b.Links {
				ok = ok && p.Links[i][k] == link.Pos
			}
			if !ok {
				t.Fatalf("P6.1: Normal of %s = %s", dump(s), dump(p))
			}
		}
	}
}

func TestCheckCounts(t *testing.T) {
	s := mixed()
	good := "+co -mm +cc +c -m -cc"
	change := func(change func(p *api.Position)) api.Position {
		p := at(good)
		change(&p)
		return p
	}
	for what, c := range map[string]struct {
		p    api.Position
		want api.Errno
	}{
		"a valid position":               {at(good), api.OK},
		"no position":                    {api.Position{}, api.ErrCount},
		"nil Closed":                     {change(func(p *api.Position) { p.Closed = nil }), api.ErrCount},
		"Closed with an element too few": {change(func(p *api.Position) { p.Closed = p.Closed[:5] }), api.ErrCount},
		"Closed with one too many":       {change(func(p *api.Position) { p.Closed = append(p.Closed, false) }), api.ErrCount},
		"nil Links":                      {change(func(p *api.Position) { p.Links = nil }), api.ErrCount},
		"Links with an element too few":  {change(func(p *api.Position) { p.Links = p.Links[:5] }), api.ErrCount},
		"Links with one too many":        {change(func(p *api.Position) { p.Links = append(p.Links, nil) }), api.ErrCount},
		"Links with a full one too many": {change(func(p *api.Position) { p.Links = append(p.Links, []int{1}) }), api.ErrCount},
		"both with an element too few":   {at("+co -mm +cc +c -m"), api.ErrCount},
		"both with one too many":         {at(good + " -o"), api.ErrCount},
		"both with an empty one too many": {change(func(p *api.Position) {
			p.Closed, p.Links = append(p.Closed, false), append(p.Links, nil)
		}), api.ErrCount},
	} {
		expect(t, "P6.1: Check of "+what, topology.Check(s, c.p), c.want)
	}
	for i, b := range s.Bays {
		for n := range 4 {
			want := api.ErrCount
			if n == len(b.Links) {
				want = api.OK
			}
			p := change(func(p *api.Position) { p.Links[i] = []int{1, 1, 1}[:n] })
			expect(t, fmt.Sprintf("P6.1: Check with %d links of bay %d", n, i), topology.Check(s, p), want)
		}
		p := change(func(p *api.Position) { p.Links[i] = nil })
		expect(t, fmt.Sprintf("P6.1: Check with nil links of bay %d", i), topology.Check(s, p), api.ErrCount)
	}
}

func TestCheckValues(t *testing.T) {
	s := mixed()
	for i, b := range s.Bays {
		for k := range b.Links {
			for _, pos := range []int{api.Open, api.Closed, api.Moving, -1, 3, 4, 255, 256, 257, 1 << 32, 1<<32 + 1, math.MinInt, math.MaxInt} {
				want := api.ErrValue
				if pos == api.Closed || b.Kind != api.Coupler && (pos == api.Open || pos == api.Moving) {
					want = api.OK
				}
				p := at("+cc +cc +cc +c +c +cc")
				p.Links[i][k] = pos
				expect(t, fmt.Sprintf("P6.1: Check with position %d of link %d of bay %d", pos, k, i), topology.Check(s, p), want)
			}
		}
	}
}

// TestCheckOrder looks at positions that have errors of both kinds. A wrong value in a bay before one with a wrong number of links is left out: the rule about lists may be read both ways there.
func TestCheckOrder(t *testing.T) {
	s := mixed()
	for i := range s.Bays {
		for _, wrong := range []int{-1, 3} {
			p := at("+cc +cc +cc +c +c +cc")
			p.Links[i][0] = wrong
			expect(t, "P6.1: Check of a wrong value", topology.Check(s, p), api.ErrValue)
			q := clonePosition(p)
			q.Closed = q.Closed[1:]
			expect(t, "P6.1: Check of a wrong value, and Closed with an element too few", topology.Check(s, q), api.ErrCount)
			q = clonePosition(p)
			q.Closed = append(q.Closed, true)
			expect(t, "P6.1: Check of a wrong value, and Closed with one too many", topology.Check(s, q), api.ErrCount)
			q = clonePosition(p)
			q.Links = append(q.Links, []int{1})
			expect(t, "P6.1: Check of a wrong value, and Links with one too many", topology.Check(s, q), api.ErrCount)
			q = clonePosition(p)
			q.Links[i] = append(q.Links[i], 1)
			expect(t, "P6.1: Check of a bay with a wrong value and a link too many", topology.Check(s, q), api.ErrCount)
			q = clonePosition(p)
			q.Links[i] = []int{wrong, wrong, wrong}[:len(q.Links[i])-1]
			expect(t, "P6.1: Check of a bay with a wrong value and a link too few", topology.Check(s, q), api.ErrCount)
			for k := range i {
				q = clonePosition(p)
				q.Links[k] = append(q.Links[k], 1)
				expect(t, "P6.1: Check of a bay with a link too many before one with a wrong value", topology.Check(s, q), api.ErrCount)
			}
		}
	}
}

// TestCheckAnyDiagram looks at diagrams with errors, which Check of a position does not look for.
func TestCheckAnyDiagram(t *testing.T) {
	for what, s := range invalidDiagrams() {
		p := allClosed(s)
		expect(t, "P6.1: Check for a diagram with "+what, topology.Check(s, p), api.OK)
		p.Closed = append(p.Closed, true)
		expect(t, "P6.1: Check of Closed with one too many, for a diagram with "+what, topology.Check(s, p), api.ErrCount)
	}
	s := api.Station{Bays: []api.Bay{{Kind: 7, Links: make([]api.Link, 3)}, {Kind: api.Coupler, Links: make([]api.Link, 1)}, {}}}
	expect(t, "P6.1: Check for a diagram with three links", topology.Check(s, at("-com -c -")), api.OK)
	expect(t, "P6.1: Check for a diagram with three links, of two", topology.Check(s, at("-co -c -")), api.ErrCount)
	expect(t, "P6.1: Check for a diagram with a coupler with one link that is open", topology.Check(s, at("-com -o -")), api.ErrValue)
	expect(t, "P6.1: Check for a diagram with a bay of no kind, of a position 3", topology.Check(s, api.Position{Closed: make([]bool, 3), Links: [][]int{{3, 1, 1}, {1}, {}}}), api.ErrValue)
	expect(t, "P6.1: Check for an empty diagram", topology.Check(api.Station{}, api.Position{}), api.OK)
	expect(t, "P6.1: Check for an empty diagram, with a bay", topology.Check(api.Station{}, at("+")), api.ErrCount)
}

func TestResolve(t *testing.T) {
	for _, c := range []struct{ p, open, closed api.Position }{
		{at(""), at(""), at("")},
		{at("+m"), at("+o"), at("+c")},
		{at("-m"), at("-o"), at("-c")},
		{at("+com -mm +mc"), at("+coo -oo +oc"), at("+coc -cc +cc")},
		{at("+co -oc +cc"), at("+co -oc +cc"), at("+co -oc +cc")},
		// Positions with errors: any values, and lists of any lengths.
		{
			api.Position{Closed: []bool{true, false}, Links: [][]int{{3, -1, 2, math.MinInt, math.MaxInt, -2, 2}, nil, {2}}},
			api.Position{Closed: []bool{true, false}, Links: [][]int{{3, -1, 0, math.MinInt, math.MaxInt, -2, 0}, nil, {0}}},
			api.Position{Closed: []bool{true, false}, Links: [][]int{{3, -1, 1, math.MinInt, math.MaxInt, -2, 1}, nil, {1}}},
		},
		{api.Position{Closed: []bool{false, true}}, api.Position{Closed: []bool{false, true}}, api.Position{Closed: []bool{false, true}}},
		{api.Position{Links: [][]int{{2, 2}}}, api.Position{Links: [][]int{{0, 0}}}, api.Position{Links: [][]int{{1, 1}}}},
		{api.Position{Closed: []bool{}, Links: [][]int{}}, api.Position{}, api.Position{}},
		{api.Position{Links: [][]int{nil, {}}}, api.Position{Links: [][]int{nil, nil}}, api.Position{Links: [][]int{nil, nil}}},
	} {
		expect(t, "P6.1: Resolve("+dump(c.p)+", false)", topology.Resolve(c.p, false), c.open)
		expect(t, "P6.1: Resolve("+dump(c.p)+", true)", topology.Resolve(c.p, true), c.closed)
	}
}
