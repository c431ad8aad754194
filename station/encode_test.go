package station_test

import (
	"fmt"
	"reflect"
	"slices"
	"strings"
	"testing"

	"substation/api"
	"substation/station"
	"substation/syntax"
)

// withoutLines returns statements with line 0.
func withoutLines(l []api.Item) []api.Item {
	l = slices.Clone(l)
	for i := range l {
		l[i].Line = 0
		l[i].Kids = withoutLines(l[i].Kids)
	}
	return l
}

// expectText fails if Encode does not return the statements of a text.
func expectText(t *testing.T, s api.Station, text string) {
	t.Helper()
	want := withoutLines(parse(t, text))
	if l := station.Encode(s); dumpItems(l) != dumpItems(want) {
		t.Errorf("P5.4: Encode of %s = %s, not %s", dump(s), dumpItems(l), dumpItems(want))
	}
}

func TestEncode(t *testing.T) {
	expectText(t, sample(), sampleText)
	expectText(t, api.Station{Name: "S", Buses: []string{"A"}}, "station S; bus A;")
	expectText(t, api.Station{Name: "S", Buses: []string{"A"}, Lines: []api.Line{}, Sources: []api.Source{}, Bays: []api.Bay{}}, "station S; bus A;")
	if text := syntax.Format(station.Encode(sample())); text != sampleText {
		t.Errorf("P5.4: the text of the sample is %q", text)
	}
	s := sized(4, 6, 4, 16)
	expectText(t, s, write(s))
	s = sized(2, 1, 1, 16)
	slices.Reverse(s.Bays)
	expectText(t, s, write(s))
}

// TestEncodeBays writes bays of all kinds with what is written in some cases only.
func TestEncodeBays(t *testing.T) {
	for _, c := range []struct{ sat, pos, closed int }{{0, 0, 0}, {0, 0, 1}, {0, 1, 0}, {0, 1, 1}, {1, 0, 0}, {1, 1, 1}, {16383, 0, 1}, {16383, 1, 0}} {
		want := []string{"select B open;", "select B closed;"}[c.pos]
		if c.closed == 0 {
			want += "breaker open;"
		}
		sat := ""
		if c.sat != 0 {
			sat = fmt.Sprintf("sat %d;", c.sat)
		}
		for i, what := range []string{"line L 0 { ct 2; vt 3;", "line L 1 { ct 2; vt 3;", "line M 1 { ct 2; vt 3;", "source G { ct 2; vt 3;", "source H { ct 2; vt 3;", "coupler 0 1 { ct 2;", "coupler 4 6 { ct 2;"} {
			s := sample()
			b := s.Bays[i]
			b.Name, b.Ct, b.Travel, b.Sat, b.Closed, b.Links = "Q", 2, 4, c.sat, c.closed == 1, links(api.Link{Bus: 1, Pos: c.pos})
			head := "station S; bus A; bus B; bus C; line L 1 10 3 30; line M 0 5 2 15; source G 1000 1 10 2 20; source H 900 0 40 7 8; bay Q " + what + sat + "travel 4;"
			if b.Kind == api.Coupler {
				if c.pos == api.Open {
					continue
				}
				b.Links = links(closed(2), closed(1))
				head += "select C closed;"
			} else {
				b.Vt = 3
			}
			s.Bays = []api.Bay{b}
			expectText(t, s, head+want+"}")
		}
	}
}

// TestEncodeNumbers writes every number of sample at its limits, and nothing if it is beyond them.
func TestEncodeNumbers(t *testing.T) {
	for _, c := range allNumbers() {
		for _, n := range []int{c.low - 1, c.low, c.high, c.high + 1} {
			s := sample()
			*c.at(&s) = n
			want := ""
			if c.low <= n && n <= c.high {
				want = write(s)
			}
			expectText(t, s, want)
		}
	}
}

// TestEncodeErrors writes diagrams with an error, which have no statements.
func TestEncodeErrors(t *testing.T) {
	expectText(t, api.Station{}, "")
	expectText(t, api.Station{Name: "S"}, "")
	expectText(t, api.Station{Buses: []string{"A"}}, "")
	for _, c := range damages() {
		s := sample()
		c.change(&s)
		expectText(t, s, "")
	}
}

// leaves returns all fields of a value that are neither structs nor lists.
func leaves(v reflect.Value) []reflect.Value {
	var l []reflect.Value
	switch v.Kind() {
	case reflect.Struct:
		for i := range v.NumField() {
			l = append(l, leaves(v.Field(i))...)
		}
	case reflect.Slice:
		for i := range v.Len() {
			l = append(l, leaves(v.Index(i))...)
		}
	default:
		l = append(l, v)
	}
	return l
}

// expectSame fails if Same of two diagrams, in either order, is not as given.
func expectSame(t *testing.T, what string, a, b api.Station, want bool) {
	t.Helper()
	if station.Same(a, b) != want || station.Same(b, a) != want {
		t.Errorf("P5.4: %s: Same of %s and %s is not %v", what, dump(a), dump(b), want)
	}
}

// TestSameFields changes each field of a diagram, also so that it is no longer valid.
func TestSameFields(t *testing.T) {
	expectSame(t, "the sample", sample(), sample(), true)
	s := sample()
	n := len(leaves(reflect.ValueOf(&s).Elem()))
	if n < 100 {
		t.Fatalf("the sample has %d fields only", n)
	}
	for i := range n {
		s := sample()
		at := leaves(reflect.ValueOf(&s).Elem())[i]
		switch at.Kind() {
		case reflect.String:
			at.SetString(at.String() + "1")
		case reflect.Int:
			at.SetInt(at.Int() + 1<<32)
		case reflect.Bool:
			at.SetBool(!at.Bool())
		}
		expectSame(t, fmt.Sprint("field ", i), s, sample(), false)
		expectSame(t, fmt.Sprint("field ", i, " in both"), s, clone(s), true)
	}
}

// TestSameLists changes the lengths and orders of lists.
func TestSameLists(t *testing.T) {
	for i, change := range []func(s *api.Station){
		func(s *api.Station) { s.Buses = s.Buses[:2] },
		func(s *api.Station) { s.Buses = append(s.Buses, "") },
		func(s *api.Station) { s.Buses = nil },
		func(s *api.Station) { slices.Reverse(s.Buses) },
		func(s *api.Station) { s.Lines = s.Lines[:1] },
		func(s *api.Station) { s.Lines = append(s.Lines, api.Line{}) },
		func(s *api.Station) { s.Lines = nil },
		func(s *api.Station) { slices.Reverse(s.Lines) },
		func(s *api.Station) { s.Sources = s.Sources[:1] },
		func(s *api.Station) { s.Sources = append(s.Sources, api.Source{}) },
		func(s *api.Station) { s.Sources = nil },
		func(s *api.Station) { slices.Reverse(s.Sources) },
		func(s *api.Station) { s.Bays = s.Bays[:6] },
		func(s *api.Station) { s.Bays = append(s.Bays, api.Bay{}) },
		func(s *api.Station) { s.Bays = nil },
		func(s *api.Station) { s.Bays[tie], s.Bays[loose] = s.Bays[loose], s.Bays[tie] },
		func(s *api.Station) { s.Bays[loose].Links = s.Bays[loose].Links[:1] },
		func(s *api.Station) { s.Bays[loose].Links = append(s.Bays[loose].Links, api.Link{}) },
		func(s *api.Station) { s.Bays[near].Links = nil },
		func(s *api.Station) { slices.Reverse(s.Bays[near].Links) },
	} {
		s := sample()
		change(&s)
		expectSame(t, fmt.Sprint("change ", i), s, sample(), false)
		expectSame(t, fmt.Sprint("change ", i, " in both"), s, clone(s), true)
	}
}

// TestSameEmpty looks at lists that are nil or empty.
func TestSameEmpty(t *testing.T) {
	empty := api.Station{Buses: []string{}, Lines: []api.Line{}, Sources: []api.Source{}, Bays: []api.Bay{}}
	expectSame(t, "empty lists", empty, api.Station{}, true)
	expectSame(t, "no lists", api.Station{}, api.Station{}, true)
	expectSame(t, "a name", api.Station{Name: "S"}, empty, false)
	a, b := sample(), sample()
	a.Bays[second].Links, b.Bays[second].Links = nil, []api.Link{}
	expectSame(t, "empty links", a, b, true)
	a.Buses, b.Buses = nil, []string{}
	a.Lines, b.Lines = []api.Line{}, nil
	a.Sources, b.Sources = nil, []api.Source{}
	expectSame(t, "many empty lists", a, b, true)
	a = api.Station{Buses: make([]string, 1, 9), Bays: make([]api.Bay, 1, 7)}
	b = api.Station{Buses: make([]string, 1), Bays: make([]api.Bay, 1, 2)}
	expectSame(t, "other capacities", a, b, true)
	long := api.Station{Name: strings.Repeat("x", 1000), Buses: make([]string, 1000), Bays: make([]api.Bay, 1000)}
	expectSame(t, "long lists", long, clone(long), true)
}
