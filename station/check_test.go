package station_test

import (
	"fmt"
	"math"
	"slices"
	"strings"
	"testing"

	"substation/api"
	"substation/station"
)

func TestName(t *testing.T) {
	for s, want := range map[string]bool{
		"":                          false,
		"A":                         true,
		"z":                         true,
		"Z_9":                       true,
		"a__":                       true,
		"line":                      true,
		"A23456789abc":              true,
		"A23456789abcd":             false,
		strings.Repeat("A", 100000): false,
		"1":                         false,
		"1A":                        false,
		"_":                         false,
		"_A":                        false,
		"A-":                        false,
		"A.B":                       false,
		"A B":                       false,
		" A":                        false,
		"A ":                        false,
		"A\n":                       false,
		"A\x00":                     false,
		"\u00e9":                    false,
		"A\u00e9":                   false,
		"A\u0661":                   false,
		"\u0391":                    false,
		"A\xff":                     false,
		"\xc3":                      false,
	} {
		if station.Name(s) != want {
			t.Errorf("P5.4: Name(%.40q) = %v", s, !want)
		}
	}
	for n := range 30 {
		if got := station.Name(strings.Repeat("x", n)); got != (n >= 1 && n <= 12) {
			t.Errorf("P5.4: Name of %d characters = %v", n, got)
		}
	}
}

// TestNameBytes looks at every byte, at every place of names of all lengths.
func TestNameBytes(t *testing.T) {
	for n := 1; n <= 13; n++ {
		for at := range n {
			for c := range 256 {
				b := []byte(strings.Repeat("x", n))
				b[at] = byte(c)
				allowed := strings.IndexByte(characters, byte(c)) >= 0
				if at == 0 {
					allowed = strings.IndexByte(letters, byte(c)) >= 0
				}
				if got := station.Name(string(b)); got != (allowed && n <= 12) {
					t.Errorf("P5.4: Name(%q) = %v", b, got)
				}
			}
		}
	}
}

// named returns pointers to all names of elements of a diagram, in their order.
func named(s *api.Station) []*string {
	var l []*string
	for i := range s.Buses {
		l = append(l, &s.Buses[i])
	}
	for i := range s.Lines {
		l = append(l, &s.Lines[i].Name)
	}
	for i := range s.Sources {
		l = append(l, &s.Sources[i].Name)
	}
	for i := range s.Bays {
		l = append(l, &s.Bays[i].Name)
	}
	return l
}

func TestCheckNames(t *testing.T) {
	for _, name := range []string{"x", "X", "x23456789_12", "x_"} {
		s := sample()
		s.Name = name
		expectCheck(t, "name of the diagram", s, api.OK)
		for i := range named(&s) {
			s := sample()
			*named(&s)[i] = name
			expectCheck(t, fmt.Sprint("name of element ", i), s, api.OK)
		}
	}
	for _, name := range []string{"", "x234567890123", "1", "1x", "_", "_x", "x-", "x.y", "x y", "x\n", "\u00e9", "x\x00"} {
		s := sample()
		s.Name = name
		expectCheck(t, "name of the diagram", s, api.ErrName)
		for i := range named(&s) {
			s := sample()
			*named(&s)[i] = name
			expectCheck(t, fmt.Sprint("name of element ", i), s, api.ErrName)
		}
	}
}

func TestCheckDuplicates(t *testing.T) {
	s := sample()
	for k := range named(&s) {
		for i := range k {
			s := sample()
			*named(&s)[k] = *named(&s)[i]
			expectCheck(t, fmt.Sprintf("elements %d and %d with one name", i, k), s, api.ErrDuplicate)
		}
		s := sample()
		*named(&s)[k] = s.Name
		expectCheck(t, fmt.Sprintf("element %d with the name of the diagram", k), s, api.OK)
		s = sample()
		*named(&s)[k] = strings.ToLower(*named(&s)[(k+1)%len(named(&s))])
		expectCheck(t, fmt.Sprintf("element %d with a name that differs in case", k), s, api.OK)
	}
}

func TestCheckCounts(t *testing.T) {
	for _, c := range []struct {
		buses, lines, sources, bays int
		want                        api.Errno
	}{
		{0, 0, 0, 0, api.ErrCount},
		{0, 1, 1, 0, api.ErrCount},
		{1, 0, 0, 0, api.OK},
		{4, 0, 0, 0, api.OK},
		{5, 0, 0, 0, api.ErrCount},
		{1, 6, 0, 0, api.OK},
		{1, 7, 0, 0, api.ErrCount},
		{1, 0, 4, 0, api.OK},
		{1, 0, 5, 0, api.ErrCount},
		{2, 0, 0, 16, api.OK},
		{2, 0, 0, 17, api.ErrCount},
		{4, 6, 4, 16, api.OK},
		{2, 1, 1, 16, api.OK},
		{4, 6, 4, 17, api.ErrCount},
		{2, 5, 3, 17, api.ErrCount},
		{5, 6, 4, 16, api.ErrCount},
		{4, 7, 4, 16, api.ErrCount},
		{4, 6, 5, 16, api.ErrCount},
		{1000, 1000, 1000, 1000, api.ErrCount},
	} {
		s := sized(c.buses, c.lines, c.sources, c.bays)
		expectCheck(t, "numbers of elements", s, c.want)
	}
}

// number is a number of a diagram, with its range.
type number struct {
	what      string
	at        func(s *api.Station) *int
	low, high int
}

// rangesOf returns the ranges of the numbers of an impedance.
func rangesOf(what string, at func(s *api.Station) *api.Impedance) []number {
	return []number{
		{what + " R", func(s *api.Station) *int { return &at(s).R }, 0, 1000},
		{what + " X", func(s *api.Station) *int { return &at(s).X }, 1, 1000},
	}
}

// allNumbers returns all numbers of sample that have a range, except for indexes.
func allNumbers() []number {
	var l []number
	for i := range 2 {
		l = append(l, rangesOf(fmt.Sprint("line ", i, " Z1"), func(s *api.Station) *api.Impedance { return &s.Lines[i].Z1 })...)
		l = append(l, rangesOf(fmt.Sprint("line ", i, " Z0"), func(s *api.Station) *api.Impedance { return &s.Lines[i].Z0 })...)
		l = append(l, number{fmt.Sprint("source ", i, " EMF"), func(s *api.Station) *int { return &s.Sources[i].Emf }, 1, 1000000})
		l = append(l, rangesOf(fmt.Sprint("source ", i, " Z1"), func(s *api.Station) *api.Impedance { return &s.Sources[i].Z1 })...)
		l = append(l, rangesOf(fmt.Sprint("source ", i, " Z0"), func(s *api.Station) *api.Impedance { return &s.Sources[i].Z0 })...)
	}
	for i, b := range sample().Bays {
		what := "bay " + b.Name
		l = append(l,
			number{what + " Ct", func(s *api.Station) *int { return &s.Bays[i].Ct }, 1, 100},
			number{what + " Sat", func(s *api.Station) *int { return &s.Bays[i].Sat }, 0, 16383},
			number{what + " Travel", func(s *api.Station) *int { return &s.Bays[i].Travel }, 1, 6},
		)
		if b.Kind == api.Coupler {
			l = append(l, rangesOf(what, func(s *api.Station) *api.Impedance { return &s.Bays[i].Z })...)
			l = append(l, number{what + " Vt", func(s *api.Station) *int { return &s.Bays[i].Vt }, 0, 0})
		} else {
			l = append(l,
				number{what + " Vt", func(s *api.Station) *int { return &s.Bays[i].Vt }, 1, 10000},
				number{what + " R", func(s *api.Station) *int { return &s.Bays[i].Z.R }, 0, 0},
				number{what + " X", func(s *api.Station) *int { return &s.Bays[i].Z.X }, 0, 0},
			)
		}
		if b.Kind != api.LineBay {
			l = append(l, number{what + " End", func(s *api.Station) *int { return &s.Bays[i].End }, 0, 0})
		}
	}
	// The only bay of its line, so that both ends are free.
	return append(l, number{"bay Q3 End", func(s *api.Station) *int { return &s.Bays[second].End }, 0, 1})
}

func TestCheckNumbers(t *testing.T) {
	for _, c := range allNumbers() {
		for _, n := range []int{c.low, (c.low + c.high) / 2, c.high} {
			s := sample()
			*c.at(&s) = n
			expectCheck(t, fmt.Sprint(c.what, " ", n), s, api.OK)
		}
		for _, n := range []int{c.low - 1, c.high + 1, -c.high - 1, math.MinInt, math.MaxInt, c.low + 1<<32} {
			s := sample()
			*c.at(&s) = n
			expectCheck(t, fmt.Sprint(c.what, " ", n), s, api.ErrRange)
		}
	}
}

func TestCheckObjects(t *testing.T) {
	for i, b := range sample().Bays {
		for _, kind := range []int{0, 4, -1, math.MinInt, math.MaxInt, b.Kind + 1<<32} {
			s := sample()
			s.Bays[i].Kind = kind
			expectCheck(t, "unknown kind", s, api.ErrKind)
		}
		objects := 2
		if b.Kind == api.Coupler {
			objects = 1
		}
		for _, of := range []int{-1, objects, objects + 1, math.MinInt, math.MaxInt, 1 << 32} {
			s := sample()
			s.Bays[i].Of = of
			expectCheck(t, "unknown object", s, api.ErrUnknown)
		}
	}
	// Two lines and one source, one line and two sources: the index has to be that of the bay's kind.
	for _, c := range []struct{ lines, sources, kind, of int }{{2, 1, api.SourceBay, 1}, {1, 2, api.LineBay, 1}, {0, 1, api.LineBay, 0}, {1, 0, api.SourceBay, 0}} {
		s := sized(1, c.lines, c.sources, 1)
		s.Bays[0].Kind, s.Bays[0].Of = c.kind, c.of
		expectCheck(t, "index of another kind", s, api.ErrUnknown)
	}
	s := sized(1, 6, 4, 16)
	expectCheck(t, "all lines and sources", s, api.OK)
	slices.Reverse(s.Bays)
	expectCheck(t, "all lines and sources, in reverse order", s, api.OK)
}

// TestCheckOtherKinds gives each kind of bay what only other kinds may have.
func TestCheckOtherKinds(t *testing.T) {
	for i, c := range []struct {
		bay    int
		change func(b *api.Bay)
		want   api.Errno
	}{
		{near, func(b *api.Bay) { b.Z = ohms(0, 1) }, api.ErrRange},
		{near, func(b *api.Bay) { b.Z = ohms(1, 0) }, api.ErrRange},
		{near, func(b *api.Bay) { b.Vt = 0 }, api.ErrRange},
		{near, func(b *api.Bay) { b.End = 2 }, api.ErrRange},
		{near, func(b *api.Bay) { b.Kind = api.Coupler }, api.ErrRange},
		{strong, func(b *api.Bay) { b.Z = ohms(0, 1) }, api.ErrRange},
		{strong, func(b *api.Bay) { b.Vt = 0 }, api.ErrRange},
		{strong, func(b *api.Bay) { b.End = 1 }, api.ErrRange},
		{strong, func(b *api.Bay) { b.Kind = api.Coupler }, api.ErrRange},
		{tie, func(b *api.Bay) { b.Z = ohms(0, 0) }, api.ErrRange},
		{tie, func(b *api.Bay) { b.Vt = 1 }, api.ErrRange},
		{tie, func(b *api.Bay) { b.End = 1 }, api.ErrRange},
		{tie, func(b *api.Bay) { b.Of = 1 }, api.ErrUnknown},
		{tie, func(b *api.Bay) { b.Kind = api.LineBay }, api.ErrRange},
		{tie, func(b *api.Bay) { b.Kind = api.SourceBay }, api.ErrRange},
		{tie, func(b *api.Bay) { b.Links[0].Pos = api.Open }, api.ErrValue},
		{tie, func(b *api.Bay) { b.Links = b.Links[:1] }, api.ErrCount},
		{second, func(b *api.Bay) { b.Kind, b.End, b.Of = api.SourceBay, 0, 1 }, api.OK},
		{weak, func(b *api.Bay) { b.Kind = api.LineBay }, api.OK},
		{tie, func(b *api.Bay) { b.Kind, b.Of, b.Z, b.Vt = api.LineBay, 1, ohms(0, 0), 1 }, api.OK},
	} {
		s := sample()
		if c.bay == second && c.want == api.OK {
			s.Bays = slices.Delete(s.Bays, weak, weak+1)
		}
		c.change(&s.Bays[c.bay])
		expectCheck(t, fmt.Sprint("case ", i), s, c.want)
	}
}

func TestCheckPlaces(t *testing.T) {
	for i, c := range []struct {
		bay    int
		change func(b *api.Bay)
		want   api.Errno
	}{
		{far, func(b *api.Bay) { b.End = 0 }, api.ErrConflict},
		{near, func(b *api.Bay) { b.End = 1 }, api.ErrConflict},
		{second, func(b *api.Bay) { b.Of = 0 }, api.ErrConflict},
		{second, func(b *api.Bay) { b.Of, b.End = 0, 0 }, api.ErrConflict},
		{second, func(b *api.Bay) { b.End = 0 }, api.OK},
		{weak, func(b *api.Bay) { b.Of = 0 }, api.ErrConflict},
		{strong, func(b *api.Bay) { b.Of = 1 }, api.ErrConflict},
		{strong, func(b *api.Bay) { b.Kind, b.Of, b.End = api.LineBay, 1, 1 }, api.ErrConflict},
		{strong, func(b *api.Bay) { b.Kind, b.Of, b.End = api.LineBay, 1, 0 }, api.OK},
		{near, func(b *api.Bay) { b.Kind, b.Of = api.SourceBay, 0 }, api.ErrConflict},
		{loose, func(b *api.Bay) { b.Links = links(closed(0), closed(1)) }, api.OK},
		{loose, func(b *api.Bay) { b.Links, b.Z = links(closed(0), closed(1)), ohms(0, 1) }, api.OK},
	} {
		s := sample()
		c.change(&s.Bays[c.bay])
		expectCheck(t, fmt.Sprint("case ", i), s, c.want)
	}
	s := sized(2, 0, 0, 16)
	expectCheck(t, "16 couplers between two buses", s, api.OK)
}

func TestCheckLinks(t *testing.T) {
	all := []int{near, second, strong, tie}
	ends := []int{near, second, strong}
	ties := []int{tie, loose}
	for i, c := range []struct {
		bays  []int
		links []api.Link
		want  api.Errno
	}{
		{all, nil, api.ErrCount},
		{all, links(), api.ErrCount},
		{ends, links(closed(0)), api.OK},
		{ends, links(open(2)), api.OK},
		{ties, links(closed(0)), api.ErrCount},
		{ends, links(open(0), open(1)), api.OK},
		{ends, links(closed(2), open(1)), api.OK},
		{ends, links(closed(2), closed(1)), api.OK},
		{all, links(closed(2), closed(0)), api.OK},
		{all, links(closed(0), closed(1), closed(2)), api.ErrCount},
		{all, links(closed(0), closed(1), closed(0)), api.ErrCount},
		{all, links(closed(0), closed(0)), api.ErrConflict},
		{ends, links(closed(0), open(0)), api.ErrConflict},
		{ends, links(open(2), open(2)), api.ErrConflict},
		{ends, links(closed(-1)), api.ErrUnknown},
		{ends, links(closed(3)), api.ErrUnknown},
		{all, links(closed(-1), closed(0)), api.ErrUnknown},
		{all, links(closed(3), closed(0)), api.ErrUnknown},
		{all, links(closed(0), closed(-1)), api.ErrUnknown},
		{all, links(closed(0), closed(3)), api.ErrUnknown},
		{all, links(closed(math.MaxInt), closed(0)), api.ErrUnknown},
		{all, links(closed(0), closed(math.MinInt)), api.ErrUnknown},
		{ties, links(open(0), closed(1)), api.ErrValue},
		{ties, links(closed(0), open(1)), api.ErrValue},
		{ties, links(open(0), open(1)), api.ErrValue},
		{all, links(api.Link{Bus: 0, Pos: api.Moving}, closed(1)), api.ErrValue},
		{all, links(closed(0), api.Link{Bus: 1, Pos: api.Moving}), api.ErrValue},
		{all, links(api.Link{Bus: 0, Pos: -1}, closed(1)), api.ErrValue},
		{all, links(closed(0), api.Link{Bus: 1, Pos: 3}), api.ErrValue},
		{ends, links(api.Link{Bus: 1, Pos: 1 << 32}), api.ErrValue},
	} {
		for _, bay := range c.bays {
			s := sample()
			s.Bays[bay].Links = c.links
			expectCheck(t, fmt.Sprint("case ", i), s, c.want)
		}
	}
	s := sized(2, 1, 0, 1)
	s.Bays[0].Links = links(closed(0), closed(2))
	expectCheck(t, "a bus beyond two", s, api.ErrUnknown)
}

func TestCheckEmpty(t *testing.T) {
	expectCheck(t, "nothing", api.Station{}, api.ErrName)
	expectCheck(t, "a name", api.Station{Name: "S"}, api.ErrCount)
	expectCheck(t, "a bus", api.Station{Name: "S", Buses: []string{"A"}}, api.OK)
	expectCheck(t, "empty lists", api.Station{Name: "S", Buses: []string{}, Lines: []api.Line{}, Sources: []api.Source{}, Bays: []api.Bay{}}, api.ErrCount)
	expectCheck(t, "a bus and empty lists", api.Station{Name: "S", Buses: []string{"A"}, Lines: []api.Line{}, Sources: []api.Source{}, Bays: []api.Bay{}}, api.OK)
	expectCheck(t, "a name that is none, and no bus", api.Station{Name: "1"}, api.ErrName)
	expectCheck(t, "the sample", sample(), api.OK)
}

// damage is a change of sample that leads to an error.
type damage struct {
	what   string
	change func(s *api.Station)
	want   api.Errno
}

// damages returns changes in the order of their errors.
func damages() []damage {
	l := []damage{
		{"name of the diagram", func(s *api.Station) { s.Name = "1" }, api.ErrName},
		{"no bus", func(s *api.Station) { s.Buses = nil }, api.ErrCount},
		{"5 buses", func(s *api.Station) { s.Buses = oneMore(s.Buses, 4) }, api.ErrCount},
		{"7 lines", func(s *api.Station) { s.Lines = oneMore(s.Lines, 6) }, api.ErrCount},
		{"5 sources", func(s *api.Station) { s.Sources = oneMore(s.Sources, 4) }, api.ErrCount},
		{"17 bays", func(s *api.Station) { s.Bays = oneMore(s.Bays, 16) }, api.ErrCount},
	}
	for i := range 3 {
		bus := func(s *api.Station) *string { return &s.Buses[i] }
		l = append(l, nameDamages(fmt.Sprint("bus ", i), i > 0, bus)...)
	}
	for i := range 2 {
		line := func(s *api.Station) *string { return &s.Lines[i].Name }
		l = append(l, nameDamages(fmt.Sprint("line ", i), true, line)...)
		l = append(l, damage{fmt.Sprint("impedance of line ", i), func(s *api.Station) { s.Lines[i].Z0.X = 0 }, api.ErrRange})
	}
	for i := range 2 {
		source := func(s *api.Station) *string { return &s.Sources[i].Name }
		l = append(l, nameDamages(fmt.Sprint("source ", i), true, source)...)
		l = append(l, damage{fmt.Sprint("EMF of source ", i), func(s *api.Station) { s.Sources[i].Emf = 0 }, api.ErrRange})
	}
	for i := range sample().Bays {
		l = append(l, bayDamages(i)...)
	}
	return l
}

// oneMore returns a list of one more than limit elements, from those of l.
func oneMore[T any](l []T, limit int) []T { return slices.Repeat(l, limit+1)[:limit+1] }

// nameDamages returns the changes of a name.
func nameDamages(what string, hasBefore bool, at func(s *api.Station) *string) []damage {
	l := []damage{{what + ": its name", func(s *api.Station) { *at(s) = "_" }, api.ErrName}}
	if hasBefore {
		l = append(l, damage{what + ": a name twice", func(s *api.Station) { *at(s) = s.Buses[0] }, api.ErrDuplicate})
	}
	return l
}

// bayDamages returns the changes of bay i.
func bayDamages(i int) []damage {
	what := fmt.Sprint("bay ", i, ": ")
	l := nameDamages(fmt.Sprint("bay ", i), true, func(s *api.Station) *string { return &s.Bays[i].Name })
	l = append(l,
		damage{what + "kind", func(s *api.Station) { s.Bays[i].Kind = 4 }, api.ErrKind},
		damage{what + "object", func(s *api.Station) { s.Bays[i].Of = -1 }, api.ErrUnknown},
		damage{what + "end", func(s *api.Station) { s.Bays[i].End = 2 }, api.ErrRange},
		damage{what + "impedance", func(s *api.Station) { s.Bays[i].Z.R = -1 }, api.ErrRange},
		damage{what + "Ct", func(s *api.Station) { s.Bays[i].Ct = 0 }, api.ErrRange},
		damage{what + "Vt", func(s *api.Station) { s.Bays[i].Vt = -1 }, api.ErrRange},
		damage{what + "Sat", func(s *api.Station) { s.Bays[i].Sat = -1 }, api.ErrRange},
		damage{what + "Travel", func(s *api.Station) { s.Bays[i].Travel = 7 }, api.ErrRange},
	)
	b := sample().Bays[i]
	if i == far || i == second || i == weak {
		before := sample().Bays[near]
		if i == weak {
			before = sample().Bays[strong]
		}
		l = append(l, damage{what + "place", func(s *api.Station) { s.Bays[i].Of, s.Bays[i].End = before.Of, before.End }, api.ErrConflict})
	}
	l = append(l, damage{what + "no links", func(s *api.Station) { s.Bays[i].Links = nil }, api.ErrCount})
	l = append(l, damage{what + "three links", func(s *api.Station) { s.Bays[i].Links = links(closed(0), closed(1), closed(2)) }, api.ErrCount})
	for k := range b.Links {
		l = append(l,
			damage{what + "bus", func(s *api.Station) { s.Bays[i].Links[k].Bus = 9 }, api.ErrUnknown},
			damage{what + "position", func(s *api.Station) { s.Bays[i].Links[k].Pos = 2 }, api.ErrValue},
		)
		if k > 0 {
			l = append(l, damage{what + "bus twice", func(s *api.Station) { s.Bays[i].Links[k].Bus = s.Bays[i].Links[k-1].Bus }, api.ErrConflict})
		}
	}
	return l
}

// TestCheckOrder damages sample in two ways, and expects the first error.
func TestCheckOrder(t *testing.T) {
	l := damages()
	for i, first := range l {
		s := sample()
		first.change(&s)
		expectCheck(t, first.what, s, first.want)
		for _, later := range l[i+1:] {
			s := sample()
			later.change(&s)
			first.change(&s)
			expectCheck(t, first.what+" and "+later.what, s, first.want)
		}
	}
}
