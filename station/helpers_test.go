package station_test

import (
	"fmt"
	"math/rand"
	"slices"
	"strings"
	"testing"

	"substation/api"
	"substation/station"
	"substation/syntax"
)

func ohms(r, x int) api.Impedance    { return api.Impedance{R: r, X: x} }
func closed(bus int) api.Link        { return api.Link{Bus: bus, Pos: api.Closed} }
func open(bus int) api.Link          { return api.Link{Bus: bus, Pos: api.Open} }
func links(l ...api.Link) []api.Link { return l }

// The indexes of the bays of sample by what they are: both ends of the first line, the second line, the sources, and couplers.
const (
	near, far, second, strong, weak, tie, loose = 0, 1, 2, 3, 4, 5, 6
)

// sample returns a valid diagram with elements of all kinds.
func sample() api.Station {
	return api.Station{
		Name:  "S",
		Buses: []string{"A", "B", "C"},
		Lines: []api.Line{
			{Name: "L", Z1: ohms(1, 10), Z0: ohms(3, 30)},
			{Name: "M", Z1: ohms(0, 5), Z0: ohms(2, 15)},
		},
		Sources: []api.Source{
			{Name: "G", Emf: 1000, Z1: ohms(1, 10), Z0: ohms(2, 20)},
			{Name: "H", Emf: 900, Z1: ohms(0, 40), Z0: ohms(7, 8)},
		},
		Bays: []api.Bay{
			{Name: "Q1", Kind: api.LineBay, Of: 0, End: 0, Links: links(closed(0), open(1)), Closed: true, Ct: 2, Vt: 3, Sat: 4000, Travel: 2},
			{Name: "Q2", Kind: api.LineBay, Of: 0, End: 1, Links: links(open(2), closed(0)), Ct: 5, Vt: 7, Travel: 3},
			{Name: "Q3", Kind: api.LineBay, Of: 1, End: 1, Links: links(open(1)), Closed: true, Ct: 11, Vt: 13, Sat: 17, Travel: 4},
			{Name: "Q4", Kind: api.SourceBay, Of: 0, Links: links(closed(1), closed(0)), Closed: true, Ct: 19, Vt: 23, Travel: 5},
			{Name: "Q5", Kind: api.SourceBay, Of: 1, Links: links(closed(2)), Ct: 29, Vt: 31, Sat: 37, Travel: 6},
			{Name: "K1", Kind: api.Coupler, Z: ohms(0, 1), Links: links(closed(0), closed(1)), Closed: true, Ct: 41, Travel: 1},
			{Name: "K2", Kind: api.Coupler, Z: ohms(4, 6), Links: links(closed(2), closed(1)), Ct: 43, Sat: 47, Travel: 2},
		},
	}
}

// sampleText is the text of sample.
const sampleText = `station S;
bus A;
bus B;
bus C;
line L 1 10 3 30;
line M 0 5 2 15;
source G 1000 1 10 2 20;
source H 900 0 40 7 8;
bay Q1 line L 0 {
  ct 2;
  vt 3;
  sat 4000;
  travel 2;
  select A closed;
  select B open;
}
bay Q2 line L 1 {
  ct 5;
  vt 7;
  travel 3;
  select C open;
  select A closed;
  breaker open;
}
bay Q3 line M 1 {
  ct 11;
  vt 13;
  sat 17;
  travel 4;
  select B open;
}
bay Q4 source G {
  ct 19;
  vt 23;
  travel 5;
  select B closed;
  select A closed;
}
bay Q5 source H {
  ct 29;
  vt 31;
  sat 37;
  travel 6;
  select C closed;
  breaker open;
}
bay K1 coupler 0 1 {
  ct 41;
  travel 1;
  select A closed;
  select B closed;
}
bay K2 coupler 4 6 {
  ct 43;
  sat 47;
  travel 2;
  select C closed;
  select B closed;
  breaker open;
}
`

// sized returns a valid diagram with the given numbers of elements. Its bays are ends of lines, then sources, then couplers, which need two buses.
func sized(buses, lines, sources, bays int) api.Station {
	s := api.Station{Name: "S"}
	for i := range buses {
		s.Buses = append(s.Buses, fmt.Sprint("A", i))
	}
	for i := range lines {
		s.Lines = append(s.Lines, api.Line{Name: fmt.Sprint("L", i), Z1: ohms(i, i+1), Z0: ohms(i+2, i+3)})
	}
	for i := range sources {
		s.Sources = append(s.Sources, api.Source{Name: fmt.Sprint("G", i), Emf: i + 1, Z1: ohms(i+2, i+3), Z0: ohms(i, i+1)})
	}
	for i := range bays {
		b := api.Bay{Name: fmt.Sprint("Q", i), Closed: true, Ct: 1, Vt: 1, Travel: 1, Links: links(closed(0))}
		switch {
		case i < 2*lines:
			b.Kind, b.Of, b.End = api.LineBay, i/2, i%2
		case i < 2*lines+sources:
			b.Kind, b.Of = api.SourceBay, i-2*lines
		default:
			b.Kind, b.Z, b.Vt, b.Links = api.Coupler, ohms(0, 1), 0, links(closed(0), closed(1))
		}
		s.Bays = append(s.Bays, b)
	}
	return s
}

// clone returns a copy of a diagram that shares no memory with it.
func clone(s api.Station) api.Station {
	s.Buses, s.Lines, s.Sources, s.Bays = slices.Clone(s.Buses), slices.Clone(s.Lines), slices.Clone(s.Sources), slices.Clone(s.Bays)
	for i := range s.Bays {
		s.Bays[i].Links = slices.Clone(s.Bays[i].Links)
	}
	return s
}

// dump returns all fields of a diagram as a text in which nil and empty lists are equal.
func dump(s api.Station) string { return fmt.Sprintf("%+v", s) }

// dumpItems returns all fields of statements as a text in which nil and empty lists are equal.
func dumpItems(l []api.Item) string { return fmt.Sprintf("%+v", l) }

// parse returns the statements of a text.
func parse(t *testing.T, text string) []api.Item {
	t.Helper()
	l, line, e := syntax.Parse(text)
	if e != api.OK {
		t.Fatalf("the test's text %q has error %d in line %d", text, e, line)
	}
	return l
}

// plain returns a plain word, quoted a quoted one.
func plain(text string) api.Word  { return api.Word{Text: text} }
func quoted(text string) api.Word { return api.Word{Text: text, Quoted: true} }

// statement returns a statement without a block, from plain words that are separated by blanks.
func statement(words string) api.Item {
	var item api.Item
	for _, w := range strings.Fields(words) {
		item.Words = append(item.Words, plain(w))
	}
	return item
}

// cloneItems returns a copy of statements that shares no memory with them.
func cloneItems(l []api.Item) []api.Item {
	l = slices.Clone(l)
	for i := range l {
		l[i].Words = slices.Clone(l[i].Words)
		l[i].Kids = cloneItems(l[i].Kids)
	}
	return l
}

// write returns the text of a valid diagram, as P5.4 says it.
func write(s api.Station) string {
	var b strings.Builder
	z := func(z api.Impedance) string { return fmt.Sprintf("%d %d", z.R, z.X) }
	fmt.Fprintf(&b, "station %s;\n", s.Name)
	for _, name := range s.Buses {
		fmt.Fprintf(&b, "bus %s;\n", name)
	}
	for _, x := range s.Lines {
		fmt.Fprintf(&b, "line %s %s %s;\n", x.Name, z(x.Z1), z(x.Z0))
	}
	for _, x := range s.Sources {
		fmt.Fprintf(&b, "source %s %d %s %s;\n", x.Name, x.Emf, z(x.Z1), z(x.Z0))
	}
	for _, x := range s.Bays {
		switch x.Kind {
		case api.LineBay:
			fmt.Fprintf(&b, "bay %s line %s %d {\n  ct %d;\n  vt %d;\n", x.Name, s.Lines[x.Of].Name, x.End, x.Ct, x.Vt)
		case api.SourceBay:
			fmt.Fprintf(&b, "bay %s source %s {\n  ct %d;\n  vt %d;\n", x.Name, s.Sources[x.Of].Name, x.Ct, x.Vt)
		case api.Coupler:
			fmt.Fprintf(&b, "bay %s coupler %s {\n  ct %d;\n", x.Name, z(x.Z), x.Ct)
		}
		if x.Sat != 0 {
			fmt.Fprintf(&b, "  sat %d;\n", x.Sat)
		}
		fmt.Fprintf(&b, "  travel %d;\n", x.Travel)
		for _, k := range x.Links {
			fmt.Fprintf(&b, "  select %s %s;\n", s.Buses[k.Bus], []string{"open", "closed"}[k.Pos])
		}
		if !x.Closed {
			b.WriteString("  breaker open;\n")
		}
		b.WriteString("}\n")
	}
	return b.String()
}

// pick returns one of the elements of a list.
func pick[T any](r *rand.Rand, l ...T) T { return l[r.Intn(len(l))] }

const (
	letters    = "ABCDEFGHIJKLMNOPQRSTUVWXYZabcdefghijklmnopqrstuvwxyz"
	characters = letters + "0123456789_"
)

// names returns different names, some of them words of the language.
func names(r *rand.Rand, n int) []string {
	used := map[string]bool{}
	var l []string
	for len(l) < n {
		name := pick(r, "station", "bus", "line", "source", "bay", "coupler", "select", "closed", "open", "breaker", "ct", "NAME", "N")
		if r.Intn(3) > 0 {
			b := []byte{letters[r.Intn(len(letters))]}
			for range pick(r, 0, 0, 1, 1, 2, 5, 10, 11) {
				b = append(b, characters[r.Intn(len(characters))])
			}
			name = string(b)
		}
		if !used[name] {
			used[name] = true
			l = append(l, name)
		}
	}
	return l
}

// between returns a number from low to high, often one of them.
func between(r *rand.Rand, low, high int) int {
	return pick(r, low, high, low+r.Intn(high-low+1))
}

// impedance returns an impedance of a line.
func impedance(r *rand.Rand) api.Impedance {
	return ohms(between(r, 0, api.MaxOhm), between(r, 1, api.MaxOhm))
}

// randomStation returns a valid diagram.
func randomStation(r *rand.Rand) api.Station {
	name := names(r, 31)
	next := func() string {
		x := name[0]
		name = name[1:]
		return x
	}
	s := api.Station{Name: next()}
	if r.Intn(4) == 0 {
		// An element may have the name of the diagram.
		name = append([]string{s.Name}, name...)
	}
	for range 1 + r.Intn(api.MaxBuses) {
		s.Buses = append(s.Buses, next())
	}
	for range r.Intn(api.MaxLines + 1) {
		s.Lines = append(s.Lines, api.Line{Name: next(), Z1: impedance(r), Z0: impedance(r)})
	}
	for range r.Intn(api.MaxSources + 1) {
		s.Sources = append(s.Sources, api.Source{Name: next(), Emf: between(r, 1, api.MaxEmf), Z1: impedance(r), Z0: impedance(r)})
	}
	for _, b := range places(r, s) {
		b.Name, b.Closed = next(), r.Intn(2) == 0
		b.Ct, b.Sat, b.Travel = between(r, 1, api.MaxCt), pick(r, 0, between(r, 0, api.MaxSample)), between(r, 1, api.MaxTravel)
		bus := r.Perm(len(s.Buses))
		if b.Kind == api.Coupler {
			b.Z = impedance(r)
			b.Links = links(closed(bus[0]), closed(bus[1]))
		} else {
			b.Vt = between(r, 1, api.MaxVt)
			for _, n := range bus[:1+r.Intn(min(len(bus), 2))] {
				b.Links = append(b.Links, api.Link{Bus: n, Pos: r.Intn(2)})
			}
		}
		s.Bays = append(s.Bays, b)
	}
	return s
}

// places returns some of the places of bays, in any order.
func places(r *rand.Rand, s api.Station) []api.Bay {
	var l []api.Bay
	for i := range 2 * len(s.Lines) {
		l = append(l, api.Bay{Kind: api.LineBay, Of: i / 2, End: i % 2})
	}
	for i := range s.Sources {
		l = append(l, api.Bay{Kind: api.SourceBay, Of: i})
	}
	if len(s.Buses) > 1 {
		for range r.Intn(4) {
			l = append(l, api.Bay{Kind: api.Coupler})
		}
	}
	r.Shuffle(len(l), func(i, k int) { l[i], l[k] = l[k], l[i] })
	return l[:min(api.MaxBays, r.Intn(len(l)+1))]
}

// expectCheck fails if Check returns another error.
func expectCheck(t *testing.T, what string, s api.Station, want api.Errno) {
	t.Helper()
	if e := station.Check(s); e != want {
		t.Errorf("P5.1: %s: Check of %s = %d, not %d", what, dump(s), e, want)
	}
}

// expectError fails if Decode of a text has not the given error.
func expectError(t *testing.T, text string, wantLine int, want api.Errno) {
	t.Helper()
	s, line, e := station.Decode(parse(t, text))
	if dump(s) != dump(api.Station{}) || line != wantLine || e != want {
		t.Errorf("P5.3: Decode of %q = %s, %d, %d; want line %d, %d", text, dump(s), line, e, wantLine, want)
	}
}

// expectDiagram fails if Decode of a text is not the given diagram.
func expectDiagram(t *testing.T, text string, want api.Station) {
	t.Helper()
	s, line, e := station.Decode(parse(t, text))
	if dump(s) != dump(want) || line != 0 || e != api.OK {
		t.Errorf("P5.3: Decode of %q = %s, %d, %d; want %s", text, dump(s), line, e, dump(want))
	}
}
