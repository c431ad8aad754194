package station_test

import (
	"math/rand"
	"regexp"
	"slices"
	"strconv"
	"strings"
	"testing"

	"substation/api"
	"substation/station"
	"substation/syntax"
)

// faults collects the errors of a diagram that the tests compare with: the rules that are broken, each with its number, of which the least one counts.
type faults map[int]api.Errno

// unless notes that a rule is broken if it is not kept.
func (f faults) unless(kept bool, rule int, e api.Errno) {
	if !kept {
		f[rule] = e
	}
}

// first returns the error of the first rule that is broken.
func (f faults) first() api.Errno {
	least := -1
	for rule := range f {
		if least < 0 || rule < least {
			least = rule
		}
	}
	return f[least]
}

var validName = regexp.MustCompile(`\A[A-Za-z][A-Za-z0-9_]{0,11}\z`)

// name notes the errors of the name of an element.
func (f faults) name(name string, before []string) {
	f.unless(validName.MatchString(name), 0, api.ErrName)
	f.unless(!slices.Contains(before, name), 1, api.ErrDuplicate)
}

// impedances notes the errors of impedances of lines.
func (f faults) impedances(rule int, l ...api.Impedance) {
	for _, z := range l {
		f.unless(z.R >= 0 && z.R <= 1000 && z.X >= 1 && z.X <= 1000, rule, api.ErrRange)
	}
}

// busError returns the first error of a bus.
func busError(name string, before []string) api.Errno {
	f := faults{}
	f.name(name, before)
	return f.first()
}

// lineError returns the first error of a line.
func lineError(x api.Line, before []string) api.Errno {
	f := faults{}
	f.name(x.Name, before)
	f.impedances(2, x.Z1, x.Z0)
	return f.first()
}

// sourceError returns the first error of a source.
func sourceError(x api.Source, before []string) api.Errno {
	f := faults{}
	f.name(x.Name, before)
	f.unless(x.Emf > 0 && x.Emf <= 1000000, 2, api.ErrRange)
	f.impedances(2, x.Z1, x.Z0)
	return f.first()
}

// bayError returns the first error of a bay after the first bays of a diagram, of which n are counted.
func bayError(s api.Station, n int, b api.Bay, before []string) api.Errno {
	f := faults{}
	f.name(b.Name, before)
	count, known := map[int]int{api.LineBay: len(s.Lines), api.SourceBay: len(s.Sources), api.Coupler: 1}[b.Kind]
	f.unless(known, 2, api.ErrKind)
	f.unless(b.Of >= 0 && b.Of < count, 3, api.ErrUnknown)
	f.unless(b.End == 0 || b.End == 1 && b.Kind == api.LineBay, 4, api.ErrRange)
	f.unless(b.Ct > 0 && b.Ct <= 100 && b.Sat >= 0 && b.Sat <= 16383 && b.Travel > 0 && b.Travel <= 6, 4, api.ErrRange)
	least, allowed := 1, []int{api.Open, api.Closed}
	if b.Kind == api.Coupler {
		f.impedances(4, b.Z)
		f.unless(b.Vt == 0, 4, api.ErrRange)
		least, allowed = 2, []int{api.Closed}
	} else {
		f.unless(b.Z.R == 0 && b.Z.X == 0 && b.Vt > 0 && b.Vt <= 10000, 4, api.ErrRange)
		for _, x := range s.Bays[:n] {
			f.unless(x.Kind != b.Kind || x.Of != b.Of || x.End != b.End, 5, api.ErrConflict)
		}
	}
	f.unless(len(b.Links) == least || len(b.Links) == 2, 6, api.ErrCount)
	for i, k := range b.Links {
		f.unless(k.Bus >= 0 && k.Bus < len(s.Buses), 7+3*i, api.ErrUnknown)
		f.unless(slices.Contains(allowed, k.Pos), 8+3*i, api.ErrValue)
		f.unless(i == 0 || k.Bus != b.Links[max(i, 1)-1].Bus, 9+3*i, api.ErrConflict)
	}
	return f.first()
}

// modelCheck returns what Check is to return.
func modelCheck(s api.Station) api.Errno {
	f := faults{}
	f.unless(validName.MatchString(s.Name), 0, api.ErrName)
	f.unless(len(s.Buses) >= 1 && len(s.Buses) <= 4 && len(s.Lines) <= 6 && len(s.Sources) <= 4 && len(s.Bays) <= 16, 1, api.ErrCount)
	if len(f) > 0 {
		return f.first()
	}
	var before []string
	rule := 2
	note := func(name string, e api.Errno) {
		f.unless(e == api.OK, rule, e)
		rule++
		before = append(before, name)
	}
	for _, name := range s.Buses {
		note(name, busError(name, before))
	}
	for _, x := range s.Lines {
		note(x.Name, lineError(x, before))
	}
	for _, x := range s.Sources {
		note(x.Name, sourceError(x, before))
	}
	for i, b := range s.Bays {
		note(b.Name, bayError(s, i, b, before))
	}
	return f.first()
}

// distort returns a diagram with some fields changed.
func distort(r *rand.Rand, s api.Station) api.Station {
	s = clone(s)
	name := func(at *string) {
		all := named(&s)
		*at = pick(r, "", "1", "_x", "x.", "x23456789_12", "x234567890123", "\u00e9", s.Name, *all[r.Intn(len(all))], *all[r.Intn(len(all))])
	}
	numbers := func(l ...*int) {
		*pick(r, l...) = pick(r, -1, 0, 0, 1, 1, 2, 2, 3, 4, 5, 6, 7, 100, 101, 1000, 1001, 10000, 10001, 16383, 16384, 1000000, 1000001)
	}
	for range r.Intn(5) {
		switch r.Intn(12) {
		case 0:
			name(pick(r, &s.Name, &s.Buses[0]))
		case 1:
			all := named(&s)
			name(all[r.Intn(len(all))])
		case 2:
			if len(s.Lines) > 0 {
				x := &s.Lines[r.Intn(len(s.Lines))]
				numbers(&x.Z1.R, &x.Z1.X, &x.Z0.R, &x.Z0.X)
			}
		case 3:
			if len(s.Sources) > 0 {
				x := &s.Sources[r.Intn(len(s.Sources))]
				numbers(&x.Emf, &x.Z1.R, &x.Z1.X, &x.Z0.R, &x.Z0.X)
			}
		case 4:
			s.Lines = s.Lines[:r.Intn(len(s.Lines)+1)]
		case 5:
			s.Sources = s.Sources[:r.Intn(len(s.Sources)+1)]
		case 6:
			s.Buses = s.Buses[:max(1, r.Intn(len(s.Buses)+1))]
		default:
			if len(s.Bays) > 0 {
				distortBay(r, &s.Bays[r.Intn(len(s.Bays))], numbers)
			}
		}
	}
	return s
}

// distortBay changes a field of a bay.
func distortBay(r *rand.Rand, b *api.Bay, numbers func(l ...*int)) {
	switch r.Intn(8) {
	case 0:
		b.Kind = r.Intn(5)
	case 1:
		numbers(&b.Ct, &b.Vt, &b.Sat, &b.Travel, &b.Z.R, &b.Z.X)
	case 2:
		numbers(&b.Of, &b.End)
	case 3:
		b.Of, b.End = r.Intn(3), r.Intn(2)
	case 4:
		b.Links = b.Links[:r.Intn(len(b.Links)+1)]
	case 5:
		b.Links = append(b.Links, api.Link{Bus: r.Intn(3), Pos: r.Intn(2)})
	default:
		if len(b.Links) > 0 {
			k := &b.Links[r.Intn(len(b.Links))]
			numbers(&k.Bus, &k.Pos)
		}
	}
}

// TestCheckRandom compares Check with the model.
func TestCheckRandom(t *testing.T) {
	r := rand.New(rand.NewSource(3))
	found := map[api.Errno]int{}
	for range 30000 {
		s := distort(r, randomStation(r))
		want := modelCheck(s)
		found[want]++
		if e := station.Check(s); e != want {
			t.Fatalf("P5.1: Check of %s = %d, not %d", dump(s), e, want)
		}
		if l := station.Encode(s); len(l) > 0 != (want == api.OK) {
			t.Fatalf("P5.4: Encode of %s = %s", dump(s), dumpItems(l))
		}
	}
	for _, e := range []api.Errno{api.OK, api.ErrName, api.ErrCount, api.ErrDuplicate, api.ErrRange, api.ErrKind, api.ErrUnknown, api.ErrConflict, api.ErrValue} {
		if found[e] < 200 {
			t.Errorf("error %d occurs %d times only", e, found[e])
		}
	}
}

// form returns the regular expression of a form of statements: NAME stands for a plain word, N for a number.
func form(s string) *regexp.Regexp {
	s = strings.ReplaceAll(s, "NAME", `([A-Za-z0-9_+./:-]+)`)
	s = strings.ReplaceAll(s, "N ", `(0|-?[1-9][0-9]{0,6}) `)
	return regexp.MustCompile(`\A` + s + `\z`)
}

var (
	stationForm = form(`station NAME ;`)
	busForm     = form(`bus NAME ;`)
	lineForm    = form(`line NAME N N N N ;`)
	sourceForm  = form(`source NAME N N N N N ;`)
	lineBay     = form(`bay NAME line NAME N {`)
	sourceBay   = form(`bay NAME source NAME {`)
	couplerBay  = form(`bay NAME coupler N N {`)
	detail      = form(`(ct|vt|sat|travel) N ;`)
	breaker     = form(`(breaker) (open|closed) ;`)
	link        = form(`select NAME (open|closed) ;`)
)

// show returns the words of a statement and how it ends, as the forms have them.
func show(item api.Item) string {
	text := ""
	for _, w := range item.Words {
		if w.Quoted {
			text += strconv.Quote(w.Text) + " "
		} else {
			text += w.Text + " "
		}
	}
	if item.Block {
		return text + "{"
	}
	return text + ";"
}

// values returns the numbers of the words.
func values(words []string) []int {
	var l []int
	for _, w := range words {
		n, _ := strconv.Atoi(w)
		l = append(l, n)
	}
	return l
}

// reader is a decoder that the tests compare with: it finds the words with regular expressions, and elements by going through the diagram.
type reader struct {
	s    api.Station
	read []string // the names of the elements, in the order of their statements
}

// decode returns what Decode is to return.
func (m *reader) decode(l []api.Item) (api.Station, int, api.Errno) {
	for _, item := range l {
		if line, e := m.item(item); e != api.OK {
			return api.Station{}, line, e
		}
	}
	if m.s.Name == "" {
		return api.Station{}, 0, api.ErrMissing
	}
	if len(m.s.Buses) == 0 {
		return api.Station{}, 0, api.ErrCount
	}
	return m.s, 0, api.OK
}

// item reads a statement at depth 0.
func (m *reader) item(item api.Item) (int, api.Errno) {
	first, text := item.Words[0].Text, show(item)
	if w := stationForm.FindStringSubmatch(text); w != nil {
		if m.s.Name != "" {
			return item.Line, api.ErrDuplicate
		}
		m.s.Name = w[1]
		if !validName.MatchString(w[1]) {
			return item.Line, api.ErrName
		}
	} else if w := busForm.FindStringSubmatch(text); w != nil {
		m.s.Buses = append(m.s.Buses, w[1])
		return item.Line, m.added(w[1], len(m.s.Buses) <= 4, busError(w[1], m.read))
	} else if w := lineForm.FindStringSubmatch(text); w != nil {
		n := values(w[2:])
		x := api.Line{Name: w[1], Z1: ohms(n[0], n[1]), Z0: ohms(n[2], n[3])}
		m.s.Lines = append(m.s.Lines, x)
		return item.Line, m.added(w[1], len(m.s.Lines) <= 6, lineError(x, m.read))
	} else if w := sourceForm.FindStringSubmatch(text); w != nil {
		n := values(w[2:])
		x := api.Source{Name: w[1], Emf: n[0], Z1: ohms(n[1], n[2]), Z0: ohms(n[3], n[4])}
		m.s.Sources = append(m.s.Sources, x)
		return item.Line, m.added(w[1], len(m.s.Sources) <= 4, sourceError(x, m.read))
	} else if first == "bay" {
		return m.bay(item, text)
	} else if slices.Contains([]string{"station", "bus", "line", "source"}, first) {
		return item.Line, api.ErrSyntax
	}
	return 0, api.OK
}

// added returns the error of a new element, after which its name is one that was read.
func (m *reader) added(name string, few bool, e api.Errno) api.Errno {
	m.read = append(m.read, name)
	if !few {
		return api.ErrCount
	}
	return e
}

// bay reads the statement of a bay.
func (m *reader) bay(item api.Item, text string) (int, api.Errno) {
	b := api.Bay{Closed: true}
	if w := lineBay.FindStringSubmatch(text); w != nil {
		b.Name, b.Kind, b.End = w[1], api.LineBay, values(w[3:])[0]
		b.Of = slices.IndexFunc(m.s.Lines, func(x api.Line) bool { return x.Name == w[2] })
	} else if w := sourceBay.FindStringSubmatch(text); w != nil {
		b.Name, b.Kind = w[1], api.SourceBay
		b.Of = slices.IndexFunc(m.s.Sources, func(x api.Source) bool { return x.Name == w[2] })
	} else if w := couplerBay.FindStringSubmatch(text); w != nil {
		n := values(w[2:])
		b.Name, b.Kind, b.Z = w[1], api.Coupler, ohms(n[0], n[1])
	} else {
		return item.Line, api.ErrSyntax
	}
	if b.Of < 0 {
		return item.Line, api.ErrUnknown
	}
	occurred := ""
	for _, kid := range item.Kids {
		if e := m.kid(&b, kid, &occurred); e != api.OK {
			return kid.Line, e
		}
	}
	if !strings.Contains(occurred, "ct ") || !strings.Contains(occurred, "travel ") || !strings.Contains(occurred, "vt ") && b.Kind != api.Coupler {
		return item.Line, api.ErrMissing
	}
	m.s.Bays = append(m.s.Bays, b)
	n := len(m.s.Bays)
	return item.Line, m.added(b.Name, n <= 16, bayError(m.s, n-1, b, m.read))
}

// kid reads a statement in the block of a bay.
func (m *reader) kid(b *api.Bay, kid api.Item, occurred *string) api.Errno {
	text := show(kid)
	if w := link.FindStringSubmatch(text); w != nil {
		bus := slices.Index(m.s.Buses, w[1])
		if bus < 0 {
			return api.ErrUnknown
		}
		pos := slices.Index([]string{"open", "closed"}, w[2])
		b.Links = append(b.Links, api.Link{Bus: bus, Pos: pos})
		return api.OK
	}
	w := breaker.FindStringSubmatch(text)
	if w != nil {
		b.Closed = w[2] == "closed"
	} else if w = detail.FindStringSubmatch(text); w == nil {
		return api.ErrSyntax
	} else {
		*map[string]*int{"ct": &b.Ct, "vt": &b.Vt, "sat": &b.Sat, "travel": &b.Travel}[w[1]] = values(w[2:])[0]
	}
	if strings.Contains(*occurred, w[1]+" ") {
		return api.ErrDuplicate
	}
	*occurred += w[1] + " "
	return api.OK
}

// spoil returns statements of a diagram that are changed at some places. They have no error of syntax, and different lines.
func spoil(r *rand.Rand, s api.Station) []api.Item {
	l := station.Encode(s)
	if len(l) == 0 {
		l = station.Encode(sample())
	}
	for range r.Intn(4) {
		spoilList(r, &l, l)
	}
	line := 0
	var number func(l []api.Item)
	number = func(l []api.Item) {
		for i := range l {
			line++
			l[i].Line = line
			number(l[i].Kids)
		}
	}
	l = cloneItems(l)
	number(l)
	return l
}

// spoilList changes something in a list of statements, or in one of their blocks; all are the statements at depth 0.
func spoilList(r *rand.Rand, l *[]api.Item, all []api.Item) {
	if len(*l) == 0 {
		return
	}
	i := r.Intn(len(*l))
	item := &(*l)[i]
	if item.Block && r.Intn(4) > 0 {
		spoilList(r, &item.Kids, all)
		return
	}
	switch r.Intn(11) {
	case 0:
		*l = slices.Delete(*l, i, i+1)
	case 1:
		*l = slices.Insert(*l, r.Intn(len(*l)+1), cloneItems((*l)[i:i+1])...)
	case 2:
		k := r.Intn(len(*l))
		(*l)[i], (*l)[k] = (*l)[k], (*l)[i]
	case 3:
		*l = slices.Insert(*l, i, pick(r, statement("breaker open"), statement("breaker closed"), statement("sat 0"), statement("vt 0"), statement("relay R"), statement("bus X"), statement("select X open")))
	case 4:
		item.Block = !item.Block
		if !item.Block {
			item.Kids = nil
		}
	default:
		spoilWords(r, item, all)
	}
}

// spoilWords changes a word of a statement.
func spoilWords(r *rand.Rand, item *api.Item, all []api.Item) {
	other := all[r.Intn(len(all))]
	w := pick(r, pick(r, other.Words...), plain(pick(r, "0", "1", "-1", "2", "6", "7", "100", "101", "1000", "1001", "10001", "16384", "1000001", "01", "-0", "12345678", "x", "_", "1x", "x234567890123", "closed", "open", "moving", "line", "source", "coupler")))
	w.Quoted = r.Intn(8) == 0
	i := r.Intn(len(item.Words))
	switch {
	case item.Words[0].Text == "select" && r.Intn(2) == 0:
		item.Words[len(item.Words)-1] = plain(pick(r, "open", "closed"))
	case r.Intn(5) == 0:
		item.Words = slices.Insert(item.Words, i+1, w)
	case r.Intn(5) == 0 && i > 0:
		item.Words = slices.Delete(item.Words, i, i+1)
	case r.Intn(5) == 0:
		item.Words[i].Quoted = i > 0
	case i > 0:
		item.Words[i] = w
	default:
		item.Words[0] = plain(pick(r, "station", "bus", "line", "source", "bay", "ct", "vt", "sat", "travel", "select", "breaker", "x"))
	}
}

// TestDecodeRandom compares Decode with the model.
func TestDecodeRandom(t *testing.T) {
	r := rand.New(rand.NewSource(4))
	found := map[api.Errno]int{}
	for range 30000 {
		l := spoil(r, randomStation(r))
		if e := syntax.Check(l); e != api.OK {
			t.Fatalf("the test's statements have error %d: %s", e, dumpItems(l))
		}
		want, wantLine, wantError := (&reader{}).decode(l)
		if wantError == api.OK {
			wantLine = 0
		}
		found[wantError]++
		s, line, e := station.Decode(l)
		if dump(s) != dump(want) || line != wantLine || e != wantError {
			t.Fatalf("P5.3: Decode of %q = %s, %d, %d; want %s, %d, %d", syntax.Format(l), dump(s), line, e, dump(want), wantLine, wantError)
		}
		if e == api.OK && station.Check(s) != api.OK {
			t.Fatalf("P5.5: Decode of %q is %s, which has error %d", syntax.Format(l), dump(s), station.Check(s))
		}
	}
	for _, e := range []api.Errno{api.OK, api.ErrSyntax, api.ErrName, api.ErrCount, api.ErrDuplicate, api.ErrRange, api.ErrUnknown, api.ErrConflict, api.ErrValue, api.ErrMissing} {
		if found[e] < 20 {
			t.Errorf("error %d occurs %d times only", e, found[e])
		}
	}
}
