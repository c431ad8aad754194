package station_test

import (
	"fmt"
	"math"
	"math/rand"
	"slices"
	"testing"

	"substation/api"
	"substation/station"
)

// memory is a set of places of memory of some lists, including their spare capacity.
type memory map[any]bool

// occupy adds the places of a list, and returns whether none of them was there before.
func occupy[T any](m memory, l []T) bool {
	ok := true
	l = l[:cap(l)]
	for i := range l {
		ok = ok && !m[&l[i]]
		m[&l[i]] = true
	}
	return ok
}

// addStation adds the places of a diagram.
func (m memory) addStation(s api.Station) bool {
	ok := occupy(m, s.Buses)
	ok = occupy(m, s.Lines) && ok
	ok = occupy(m, s.Sources) && ok
	ok = occupy(m, s.Bays) && ok
	for _, b := range s.Bays {
		ok = occupy(m, b.Links) && ok
	}
	return ok
}

// addItems adds the places of statements.
func (m memory) addItems(l []api.Item) bool {
	ok := occupy(m, l)
	for _, item := range l {
		ok = occupy(m, item.Words) && ok
		ok = m.addItems(item.Kids) && ok
	}
	return ok
}

// TestResults looks at P2 and P3: the results of two calls are equal, and no memory is shared within a result or between two results.
func TestResults(t *testing.T) {
	r := rand.New(rand.NewSource(1))
	for range 500 {
		s := randomStation(r)
		l := parse(t, write(s))
		m := memory{}
		m.addStation(s)
		m.addItems(l)
		for range 2 {
			items := station.Encode(s)
			if !m.addItems(items) {
				t.Fatalf("P2: Encode of %s shares memory", dump(s))
			}
			back, line, e := station.Decode(l)
			if !m.addStation(back) {
				t.Fatalf("P2: Decode of %q shares memory", write(s))
			}
			if dump(back) != dump(s) || line != 0 || e != api.OK || dumpItems(items) != dumpItems(withoutLines(l)) {
				t.Fatalf("P3: another result for %s", dump(s))
			}
		}
	}
}

// roomy returns a copy of a diagram, with something in the spare capacity of all lists.
func roomy(s api.Station) api.Station {
	s = clone(s)
	for i, b := range s.Bays {
		s.Bays[i].Links = append(b.Links, open(0), closed(1))[:len(b.Links)]
	}
	s.Buses = append(s.Buses, "B1", "B2", "B3")[:len(s.Buses)]
	s.Lines = append(s.Lines, api.Line{Name: "x"}, api.Line{})[:len(s.Lines)]
	s.Sources = append(s.Sources, api.Source{Name: "x"}, api.Source{})[:len(s.Sources)]
	s.Bays = append(s.Bays, api.Bay{Name: "x", Links: links(open(0))}, api.Bay{})[:len(s.Bays)]
	return s
}

// fullStation returns all that the memory of a diagram contains, including the spare capacity of its lists.
func fullStation(s api.Station) string {
	text := fmt.Sprintf("%q %q %v %v", s.Name, s.Buses[:cap(s.Buses)], s.Lines[:cap(s.Lines)], s.Sources[:cap(s.Sources)])
	for _, b := range s.Bays[:cap(s.Bays)] {
		text += fmt.Sprint(b, b.Links[:cap(b.Links)])
	}
	return text
}

// roomyItems returns a copy of statements, with something in the spare capacity of all lists.
func roomyItems(l []api.Item) []api.Item {
	l = slices.Clone(l)
	for i, item := range l {
		l[i].Words = append(slices.Clone(item.Words), quoted("spare"))[:len(item.Words)]
		l[i].Kids = roomyItems(item.Kids)
	}
	return append(l, statement("bus spare"))[:len(l)]
}

// fullItems returns all that the memory of statements contains, including the spare capacity of their lists.
func fullItems(l []api.Item) string {
	text := ""
	for _, item := range l[:cap(l)] {
		text += fmt.Sprint(item.Line, item.Words[:cap(item.Words)], item.Block, "{", fullItems(item.Kids), "}")
	}
	return text
}

// TestArguments looks at P2: calls change neither their arguments nor what lies behind them.
func TestArguments(t *testing.T) {
	r := rand.New(rand.NewSource(2))
	for range 500 {
		s := roomy(randomStation(r))
		if r.Intn(3) == 0 {
			s = roomy(distort(r, s))
		}
		other := roomy(s)
		l := roomyItems(spoil(r, s))
		before, beforeOther, beforeItems := fullStation(s), fullStation(other), fullItems(l)
		station.Check(s)
		station.Encode(s)
		station.Same(s, other)
		station.Decode(l)
		if fullStation(s) != before || fullStation(other) != beforeOther || fullItems(l) != beforeItems {
			t.Fatalf("P2: a call has changed its arguments: %s", before)
		}
	}
}

// TestAnyArguments looks at P1 with arguments for which nothing else is promised, and with diagrams of any kind.
func TestAnyArguments(t *testing.T) {
	item := func(block bool, words []api.Word, kids ...api.Item) api.Item {
		return api.Item{Block: block, Words: words, Kids: kids}
	}
	bay := statement("bay Q coupler 0 1").Words
	cycle := []api.Item{item(true, bay)}
	cycle[0].Kids = cycle
	for _, l := range [][]api.Item{
		{{}},
		{item(true, nil)},
		{item(false, []api.Word{{}})},
		{item(false, []api.Word{quoted("station")})},
		{item(false, []api.Word{quoted("station"), quoted("S")})},
		{item(false, []api.Word{plain("bus"), plain("")})},
		{item(false, []api.Word{plain("bus"), plain("\xff\x00")})},
		{item(false, []api.Word{plain(" bus ")})},
		{item(false, slices.Repeat([]api.Word{plain("line")}, 1000))},
		{item(false, bay, statement("ct 1"))},
		{item(true, bay, api.Item{})},
		{item(true, bay, item(true, nil))},
		{item(true, bay, item(false, []api.Word{{}}))},
		{item(true, bay, item(false, []api.Word{plain(""), plain("1")}))},
		{item(true, bay, statement("ct N"), statement("ct NAME"))},
		{item(true, bay, statement("ct 1"), item(false, statement("travel 1").Words, api.Item{}))},
		{item(false, statement("station S").Words, api.Item{})},
		slices.Repeat([]api.Item{statement("bus A")}, 1000),
		cycle,
	} {
		station.Decode(l)
	}
	for _, n := range []int{0, 1, -1, math.MinInt, math.MaxInt} {
		b := api.Bay{Name: "Q", Kind: n, Of: n, End: n, Z: ohms(n, n), Links: links(api.Link{Bus: n, Pos: n}, api.Link{Bus: n, Pos: n}), Ct: n, Vt: n, Sat: n, Travel: n}
		s := api.Station{Name: "S", Buses: []string{"A"}, Bays: []api.Bay{b}}
		for kind := range 5 {
			s.Bays[0].Kind = kind
			if station.Check(s) == api.OK || len(station.Encode(s)) > 0 || !station.Same(s, clone(s)) {
				t.Errorf("P1: a bay of numbers %d is taken", n)
			}
		}
	}
}
