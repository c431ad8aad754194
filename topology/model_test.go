package topology_test

import (
	"fmt"
	"math/rand"
	"slices"
	"strings"
	"testing"

	"substation/api"
	"substation/topology"
)

// model is a second implementation of P6.2 to P6.4, for valid diagrams and positions. It follows the sentences of the chapter one by one: groups come from a matrix of the buses that are joined, and feeding from a set that grows from the sources on.
type model struct {
	s      api.Station
	p      api.Position
	lowest []int
	ends   [][2]string // the sides of each bay
}

func newModel(s api.Station, p api.Position) model {
	n := len(s.Buses)
	joined := make([][]bool, n)
	for a := range n {
		joined[a] = make([]bool, n)
		joined[a][a] = true
	}
	for i, b := range s.Bays {
		if b.Kind != api.Coupler && len(b.Links) == 2 && p.Links[i][0] == api.Closed && p.Links[i][1] == api.Closed {
			x, y := b.Links[0].Bus, b.Links[1].Bus
			joined[x][y], joined[y][x] = true, true
		}
	}
	for m := range n {
		for a := range n {
			for b := range n {
				joined[a][b] = joined[a][b] || joined[a][m] && joined[m][b]
			}
		}
	}
	lowest := make([]int, n)
	for a := range n {
		lowest[a] = slices.Index(joined[a], true)
	}
	m := model{s: s, p: p, lowest: lowest}
	for bay := range s.Bays {
		m.ends = append(m.ends, m.findSides(bay))
	}
	return m
}

// sides returns the nodes of a bay, each as a text such as "group 2" or "none 0".
func (m model) sides(bay int) [2]string {
	if bay < 0 || bay >= len(m.s.Bays) {
		return [2]string{"none 0", "none 0"}
	}
	return m.ends[bay]
}

func (m model) findSides(bay int) [2]string {
	b := m.s.Bays[bay]
	at := func(link int) string { return fmt.Sprint("group ", m.lowest[b.Links[link].Bus]) }
	if b.Kind == api.Coupler {
		return [2]string{at(0), at(1)}
	}
	first := "none 0"
	if k := slices.Index(m.p.Links[bay], api.Closed); k >= 0 {
		first = at(k)
	}
	return [2]string{first, fmt.Sprint(map[int]string{api.LineBay: "line ", api.SourceBay: "source "}[b.Kind], b.Of)}
}

func (m model) zones() []api.Zone {
	var l []api.Zone
	for a := range m.s.Buses {
		if slices.Contains(m.lowest, a) {
			l = append(l, busZone(a))
		}
	}
	for a := range m.s.Lines {
		l = append(l, lineZone(a))
	}
	return l
}

// name returns the node of a zone, or "".
func (m model) name(z api.Zone) string {
	if z.Kind == api.BusZone && 0 <= z.Of && z.Of < len(m.s.Buses) {
		return fmt.Sprint("group ", m.lowest[z.Of])
	}
	if z.Kind == api.LineZone && 0 <= z.Of && z.Of < len(m.s.Lines) {
		return fmt.Sprint("line ", z.Of)
	}
	return ""
}

func (m model) boundary(z api.Zone) []int {
	var l []int
	for bay, b := range m.s.Bays {
		x, name := m.sides(bay), m.name(z)
		belongs := false
		switch {
		case name == "":
		case z.Kind == api.LineZone:
			belongs = b.Kind == api.LineBay && b.Of == z.Of && x[0] != "none 0"
		case b.Kind == api.Coupler:
			belongs = (x[0] == name) != (x[1] == name)
		default:
			belongs = x[0] == name
		}
		if belongs {
			l = append(l, bay)
		}
	}
	return l
}

func (m model) other(z api.Zone, bay int) (api.Zone, bool) {
	if !slices.Contains(m.boundary(z), bay) {
		return api.Zone{}, false
	}
	for _, y := range m.zones() {
		if x := m.sides(bay); m.name(y) != m.name(z) && slices.Contains(x[:], m.name(y)) {
			return y, true
		}
	}
	return api.Zone{}, false
}

func (m model) far(bay int) (int, bool) {
	if bay < 0 || bay >= len(m.s.Bays) {
		return 0, false
	}
	if m.s.Bays[bay].Kind != api.LineBay {
		return bay, true
	}
	for i, b := range m.s.Bays {
		if b.Kind == api.LineBay && b.Of == m.s.Bays[bay].Of && b.End == 1-m.s.Bays[bay].End {
			return i, true
		}
	}
	return 0, false
}

func (m model) edge(bay int) bool {
	x := m.sides(bay)
	return x[0] != x[1] && x[0] != "none 0" && x[1] != "none 0" && m.p.Closed[bay]
}

// supplied returns the nodes from which a source can be reached without certain nodes.
func (m model) supplied(without []string) []string {
	var l []string
	for i := range m.s.Sources {
		l = append(l, fmt.Sprint("source ", i))
	}
	for range len(m.s.Bays) {
		for bay := range m.s.Bays {
			x := m.sides(bay)
			for k := range 2 {
				if m.edge(bay) && slices.Contains(l, x[k]) && !slices.Contains(without, x[1-k]) {
					l = append(l, x[1-k])
				}
			}
		}
		slices.Sort(l)
		l = slices.Compact(l)
	}
	return l
}

// fed returns the bays through which zones are fed.
func (m model) fed(zones []api.Zone) []int {
	var names []string
	for _, z := range zones {
		names = append(names, m.name(z))
	}
	supplied := m.supplied(names)
	var l []int
	for bay := range m.s.Bays {
		x := m.sides(bay)
		if !m.edge(bay) || slices.Contains(names, x[0]) == slices.Contains(names, x[1]) {
			continue
		}
		outer := x[0]
		if slices.Contains(names, x[0]) {
			outer = x[1]
		}
		if slices.Contains(supplied, outer) {
			l = append(l, bay)
		}
	}
	return l
}

func (m model) live(z api.Zone) bool {
	return m.name(z) != "" && slices.Contains(m.supplied(nil), m.name(z))
}

// nodes returns two nodes as the model names them.
func nodes(x [2]topology.Node) [2]string {
	var l [2]string
	for i, n := range x {
		l[i] = fmt.Sprint(map[int]string{topology.None: "none ", topology.GroupNode: "group ", topology.LineNode: "line ", topology.SourceNode: "source "}[n.Kind], n.Of)
	}
	return l
}

// found is a result together with what a function says about whether there is one.
type found[T any] struct {
	x  T
	ok bool
}

// list returns a list as a value that can be compared.
func list[T any](l []T) string { return fmt.Sprint(l) }

// compare fails if a function has another result than the model. The lists are those of zones for Fed.
func compare(t *testing.T, s api.Station, p api.Position, lists [][]api.Zone) {
	t.Helper()
	mustBeValid(t, s, p)
	m := newModel(s, p)
	agree := func(got, want any, what ...any) {
		if got != want {
			t.Fatalf("%v = %v, not %v, of %s at %s", what, got, want, dump(s.Bays), dump(p))
		}
	}
	agree(list(topology.Groups(s, p)), list(m.lowest), "P6.2: Groups")
	agree(list(topology.Zones(s, p)), list(m.zones()), "P6.3: Zones")
	all := zones(api.Zone{}, api.Zone{Kind: 3})
	for i := -1; i <= api.MaxLines; i++ {
		all = append(all, busZone(i), lineZone(i))
	}
	for _, z := range all {
		agree(list(topology.Boundary(s, p, z)), list(m.boundary(z)), "P6.3: Boundary", z)
		agree(topology.Live(s, p, z), m.live(z), "P6.4: Live", z)
		for bay := -1; bay <= len(s.Bays); bay++ {
			other, ok := topology.Other(s, p, z, bay)
			wantOther, wantOk := m.other(z, bay)
			agree(found[api.Zone]{other, ok}, found[api.Zone]{wantOther, wantOk}, "P6.3: Other", z, bay)
		}
		lists = append(lists, zones(z))
	}
	for bay := -1; bay <= len(s.Bays); bay++ {
		agree(nodes(topology.Sides(s, p, bay)), m.sides(bay), "P6.2: Sides", bay)
		far, ok := topology.Far(s, p, bay)
		wantFar, wantOk := m.far(bay)
		agree(found[int]{far, ok}, found[int]{wantFar, wantOk}, "P6.3: Far", bay)
	}
	for _, l := range lists {
		fed := m.fed(l)
		for bay := -1; bay <= len(s.Bays); bay++ {
			agree(topology.Fed(s, p, l, bay), slices.Contains(fed, bay), "P6.4: Fed", l, bay)
		}
	}
}

// randomZones returns a list of zones, among them zones twice, buses that are not the lowest of their group, and zones that do not exist.
func randomZones(r *rand.Rand) []api.Zone {
	var l []api.Zone
	for range r.Intn(7) {
		l = append(l, pick(r, busZone(r.Intn(4)), busZone(r.Intn(4)), lineZone(r.Intn(6)), api.Zone{Kind: r.Intn(5) - 1, Of: r.Intn(9) - 1}))
	}
	return l
}

func TestModelAtRandom(t *testing.T) {
	r := rand.New(rand.NewSource(3))
	for range 500 {
		s := randomGrid(r)
		lists := [][]api.Zone{nil, {}}
		for range 8 {
			lists = append(lists, randomZones(r))
		}
		compare(t, s, topology.Normal(s), lists)
		compare(t, s, randomPosition(r, s), lists)
	}
}

// TestModelAllPositions looks at all positions of a small diagram.
func TestModelAllPositions(t *testing.T) {
	s := grid(3, 1, 1, "L0.1:CB K:AC G0:BA L0.0:A")
	links := []string{"oo", "om", "oc", "mo", "mm", "mc", "co", "cm", "cc"}
	lists := [][]api.Zone{{busZone(0), busZone(1)}, {lineZone(0), busZone(2)}, {busZone(0), busZone(1), busZone(2), lineZone(0)}}
	for n := range 16 {
		var breaker [4]string
		for i := range 4 {
			breaker[i] = string("+-"[n>>i&1])
		}
		for _, a := range links {
			for _, b := range links {
				for _, c := range []string{"o", "m", "c"} {
					compare(t, s, at(strings.Join([]string{breaker[0] + a, breaker[1] + "cc", breaker[2] + b, breaker[3] + c}, " ")), lists)
				}
			}
		}
	}
}
