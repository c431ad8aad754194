package settings_test

import (
	"fmt"
	"math/rand"
	"slices"
	"strings"
	"testing"

	"substation/api"
	"substation/settings"
	"substation/station"
	"substation/syntax"
)

// Limits of package settings, which package api does not have.
const (
	maxFactor = 200
	maxWait   = 50
	maxGuard  = 50
	maxDial   = 1000
	maxDen    = 100
	maxHarm   = 100
	maxFirst  = 100
	maxMax    = 1000
)

// The indexes of the relays of sample: one with all settings of each kind, then one without any of each kind that may occur twice.
const (
	ofLine, ofSource, ofCoupler, ofBus, bareLine, bareSource, bareCoupler = 0, 1, 2, 3, 4, 5, 6
)

// diagram returns a valid diagram, the first six bays of which are those of the relays of sample.
func diagram() api.Station {
	z := api.Impedance{R: 1, X: 10}
	both := []api.Link{{Bus: 0, Pos: api.Closed}, {Bus: 1, Pos: api.Closed}}
	bay := func(name string, kind, of, end int) api.Bay {
		b := api.Bay{Name: name, Kind: kind, Of: of, End: end, Links: slices.Clone(both), Closed: true, Ct: 2, Vt: 3, Travel: 4}
		if kind == api.Coupler {
			b.Z, b.Vt = z, 0
		}
		return b
	}
	return api.Station{
		Name:    "S",
		Buses:   []string{"A", "B"},
		Lines:   []api.Line{{Name: "L", Z1: z, Z0: z}, {Name: "M", Z1: z, Z0: z}},
		Sources: []api.Source{{Name: "G", Emf: 100, Z1: z, Z0: z}, {Name: "H", Emf: 100, Z1: z, Z0: z}},
		Bays: []api.Bay{
			bay("Q1", api.LineBay, 0, 0), bay("Q2", api.SourceBay, 0, 0), bay("Q3", api.Coupler, 0, 0),
			bay("Q4", api.LineBay, 0, 1), bay("Q5", api.SourceBay, 1, 0), bay("Q6", api.Coupler, 0, 0),
			bay("Q7", api.LineBay, 1, 1),
		},
	}
}

// full returns a valid diagram with as many bays as there may be: twelve ends of lines, one source, three couplers.
func full() api.Station {
	s := diagram()
	for i := range api.MaxLines - 2 {
		x := s.Lines[0]
		x.Name = fmt.Sprint("N", i)
		s.Lines = append(s.Lines, x)
	}
	bays := s.Bays
	s.Bays = nil
	for i := range api.MaxBays {
		b := bays[i%3]
		b.Name, b.Kind, b.Links = fmt.Sprint("P", i), api.LineBay, slices.Clone(b.Links)
		switch {
		case i < 3:
			b.Kind = api.Coupler
			b.Z, b.Vt = bays[2].Z, 0
		case i == 3:
			b.Kind = api.SourceBay
			b.Z, b.Vt = api.Impedance{}, 1
		default:
			b.Of, b.End = (i-4)/2, i%2
			b.Z, b.Vt = api.Impedance{}, 1
		}
		s.Bays = append(s.Bays, b)
	}
	return s
}

// on returns an element, curve an inverse-time element, and ahead and behind a distance zone.
func on(pickup, delay int) api.Element { return api.Element{On: true, Pickup: pickup, Delay: delay} }
func curve(pickup, dial int) api.Curve { return api.Curve{On: true, Pickup: pickup, Dial: dial} }
func ahead(x, right, left, delay int) api.Reach {
	return api.Reach{On: true, Forward: true, X: x, Right: right, Left: left, Delay: delay}
}
func behind(x, right, left, delay int) api.Reach {
	return api.Reach{On: true, X: x, Right: right, Left: left, Delay: delay}
}

// sample returns valid relays of all kinds for the diagram.
func sample() []api.Relay {
	return []api.Relay{
		{
			Name: "R1", Kind: api.LineRelay, Bay: 0,
			Zones: [3]api.Reach{ahead(100, 90, 30, 0), ahead(150, 91, 31, 20), behind(200, 92, 32, 60)},
			Min:   50, KRe: -70, KIm: 80,
			Scheme: api.Blocking, Wait: 4, Guard: 6,
			Definite: on(900, 10), Inverse: curve(300, 400), Fail: on(110, 12),
			Shots: 2, Dead: 25, Reclaim: 250,
			Rules:   []api.Rule{{Name: "x", Text: "trip and not y"}, {Name: "y", Text: ""}},
			Sets:    []api.DataSet{{Name: "D", Signals: []string{"trip", "x"}}, {Name: "E", Signals: []string{"zone1"}}},
			Publish: []api.Publish{{Set: "E", First: 2, Max: 64}, {Set: "D", First: 1, Max: 4}},
			Subs:    []api.Subscribe{{Local: "a", Device: "R2", Set: "D", Signal: "trip"}, {Local: "b", Device: "R3", Set: "F", Signal: "fail"}},
		},
		{
			Name: "R2", Kind: api.SourceRelay, Bay: 1,
			Definite: on(901, 11), Inverse: curve(301, 401), Fail: on(111, 13),
			Under: on(501, 51), Over: on(701, 71),
			Rules:   []api.Rule{{Name: "x", Text: "a < 5"}},
			Sets:    []api.DataSet{{Name: "D", Signals: []string{"trip"}}},
			Publish: []api.Publish{{Set: "D", First: 3, Max: 3}},
			Subs:    []api.Subscribe{{Local: "a", Device: "R1", Set: "D", Signal: "x"}},
		},
		{
			Name: "R3", Kind: api.CouplerRelay, Bay: 2,
			Definite: on(902, 0), Inverse: curve(302, 402), Fail: on(112, 14),
			Rules:   []api.Rule{{Name: "z", Text: "true"}},
			Sets:    []api.DataSet{{Name: "F", Signals: []string{"fail", "trip", "z"}}},
			Publish: []api.Publish{{Set: "F", First: 5, Max: 10}},
			Subs:    []api.Subscribe{{Local: "c", Device: "R1", Set: "E", Signal: "zone1"}},
		},
		{
			Name: "R4", Kind: api.BusRelay, Bay: -1,
			DiffMin: 10, Num: 1, Den: 2, Harm: 20,
			Rules:   []api.Rule{{Name: "w", Text: "#;{}'"}},
			Sets:    []api.DataSet{{Name: "T", Signals: []string{"trip0", "trip15"}}},
			Publish: []api.Publish{{Set: "T", First: 1, Max: 1000}},
			Subs:    []api.Subscribe{{Local: "d", Device: "R3", Set: "F", Signal: "z"}},
		},
		{Name: "R5", Kind: api.LineRelay, Bay: 3},
		{Name: "R6", Kind: api.SourceRelay, Bay: 4},
		{Name: "R7", Kind: api.CouplerRelay, Bay: 5},
	}
}

// sampleText is the text of sample.
const sampleText = `relay R1 line Q1 {
  zone 1 forward 100 90 30 0;
  zone 2 forward 150 91 31 20;
  zone 3 reverse 200 92 32 60;
  loop 50 -70 80;
  scheme blocking 4 6;
  definite 900 10;
  inverse 300 400;
  fail 110 12;
  reclose 2 25 250;
  rule x "trip and not y";
  rule y "";
  set D trip x;
  set E zone1;
  publish E 2 64;
  publish D 1 4;
  subscribe a R2 D trip;
  subscribe b R3 F fail;
}
relay R2 source Q2 {
  definite 901 11;
  inverse 301 401;
  fail 111 13;
  under 501 51;
  over 701 71;
  rule x "a < 5";
  set D trip;
  publish D 3 3;
  subscribe a R1 D x;
}
relay R3 coupler Q3 {
  definite 902 0;
  inverse 302 402;
  fail 112 14;
  rule z "true";
  set F fail trip z;
  publish F 5 10;
  subscribe c R1 E zone1;
}
relay R4 bus {
  differential 10 1 2 20;
  rule w "#;{}'";
  set T trip0 trip15;
  publish T 1 1000;
  subscribe d R3 F z;
}
relay R5 line Q4 {
}
relay R6 source Q5 {
}
relay R7 coupler Q6 {
}
`

// cloneRelay returns a copy of a relay that shares no memory with it.
func cloneRelay(r api.Relay) api.Relay {
	r.Rules, r.Sets, r.Publish, r.Subs = slices.Clone(r.Rules), slices.Clone(r.Sets), slices.Clone(r.Publish), slices.Clone(r.Subs)
	for i := range r.Sets {
		r.Sets[i].Signals = slices.Clone(r.Sets[i].Signals)
	}
	return r
}

// clone returns a copy of relays that shares no memory with them.
func clone(l []api.Relay) []api.Relay {
	l = slices.Clone(l)
	for i := range l {
		l[i] = cloneRelay(l[i])
	}
	return l
}

// dump returns all fields of relays or statements as a text in which nil and empty lists are equal.
func dump(x any) string {
	text := strings.ReplaceAll(fmt.Sprintf("%#v", x), "(nil)", "{}")
	return strings.ReplaceAll(text, "api.", "")
}

// parse returns the statements of a text.
func parse(t *testing.T, text string) []api.Item {
	t.Helper()
	l, line, e := syntax.Parse(text)
	if e != api.OK {
		t.Fatalf("the test's text %q has error %d in line %d", text, e, line)
	}
	return l
}

// plain returns a plain word, quoted a quoted one.
func plain(text string) api.Word  { return api.Word{Text: text} }
func quoted(text string) api.Word { return api.Word{Text: text, Quoted: true} }

// statement returns a statement without a block, from plain words that are separated by blanks.
func statement(words string) api.Item {
	var item api.Item
	for _, w := range strings.Fields(words) {
		item.Words = append(item.Words, plain(w))
	}
	return item
}

// block returns a statement with a block.
func block(words string, kids ...api.Item) api.Item {
	item := statement(words)
	item.Block, item.Kids = true, kids
	return item
}

// cloneItems returns a copy of statements that shares no memory with them.
func cloneItems(l []api.Item) []api.Item {
	l = slices.Clone(l)
	for i := range l {
		l[i].Words = slices.Clone(l[i].Words)
		l[i].Kids = cloneItems(l[i].Kids)
	}
	return l
}

// write returns the text of valid relays of a diagram, as P7.4 says it.
func write(s api.Station, l []api.Relay) string {
	var b strings.Builder
	line := func(used bool, form string, values ...any) {
		if used {
			fmt.Fprintf(&b, "  "+form+";\n", values...)
		}
	}
	for _, r := range l {
		fmt.Fprintf(&b, "relay %s %s", r.Name, []string{"", "line", "source", "coupler", "bus"}[r.Kind])
		if r.Kind != api.BusRelay {
			fmt.Fprintf(&b, " %s", s.Bays[r.Bay].Name)
		}
		b.WriteString(" {\n")
		for i, z := range r.Zones {
			line(z.On, "zone %d %s %d %d %d %d", i+1, map[bool]string{false: "reverse", true: "forward"}[z.Forward], z.X, z.Right, z.Left, z.Delay)
		}
		line(r.Min != 0, "loop %d %d %d", r.Min, r.KRe, r.KIm)
		line(r.Scheme != 0, "scheme %s %d %d", []string{"", "underreach", "overreach", "blocking"}[r.Scheme], r.Wait, r.Guard)
		line(r.Definite.On, "definite %d %d", r.Definite.Pickup, r.Definite.Delay)
		line(r.Inverse.On, "inverse %d %d", r.Inverse.Pickup, r.Inverse.Dial)
		line(r.Fail.On, "fail %d %d", r.Fail.Pickup, r.Fail.Delay)
		line(r.Shots != 0, "reclose %d %d %d", r.Shots, r.Dead, r.Reclaim)
		line(r.Under.On, "under %d %d", r.Under.Pickup, r.Under.Delay)
		line(r.Over.On, "over %d %d", r.Over.Pickup, r.Over.Delay)
		line(r.DiffMin != 0, "differential %d %d %d %d", r.DiffMin, r.Num, r.Den, r.Harm)
		for _, x := range r.Rules {
			line(true, "rule %s \"%s\"", x.Name, x.Text)
		}
		for _, x := range r.Sets {
			line(true, "set %s %s", x.Name, strings.Join(x.Signals, " "))
		}
		for _, x := range r.Publish {
			line(true, "publish %s %d %d", x.Set, x.First, x.Max)
		}
		for _, x := range r.Subs {
			line(true, "subscribe %s %s %s %s", x.Local, x.Device, x.Set, x.Signal)
		}
		b.WriteString("}\n")
	}
	return b.String()
}

// pick returns one of the elements of a list.
func pick[T any](r *rand.Rand, l ...T) T { return l[r.Intn(len(l))] }

const (
	letters    = "ABCDEFGHIJKLMNOPQRSTUVWXYZabcdefghijklmnopqrstuvwxyz"
	characters = letters + "0123456789_"
)

// reserved are the words of logic equations.
var reserved = strings.Fields("true false not and or xor min max abs if rise fall delay hold latch count")

// names returns different names that are not those of elements of a diagram and not reserved, some of them words of the language.
func names(r *rand.Rand, s api.Station, n int) []string {
	used := map[string]bool{}
	for _, name := range elements(s) {
		used[name] = true
	}
	for _, name := range reserved {
		used[name] = true
	}
	var l []string
	for len(l) < n {
		name := pick(r, "relay", "bus", "line", "source", "coupler", "zone", "set", "rule", "publish", "scheme", "forward", "blocking", "NAME", "TEXT", "N", "S")
		if r.Intn(3) > 0 {
			b := []byte{letters[r.Intn(len(letters))]}
			for range pick(r, 0, 0, 1, 1, 2, 5, 10, 11) {
				b = append(b, characters[r.Intn(len(characters))])
			}
			name = string(b)
		}
		if !used[name] {
			used[name] = true
			l = append(l, name)
		}
	}
	return l
}

// elements returns the names of the elements of a diagram.
func elements(s api.Station) []string {
	l := slices.Clone(s.Buses)
	for _, x := range s.Lines {
		l = append(l, x.Name)
	}
	for _, x := range s.Sources {
		l = append(l, x.Name)
	}
	for _, x := range s.Bays {
		l = append(l, x.Name)
	}
	return l
}

// between returns a number from low to high, often one of them.
func between(r *rand.Rand, low, high int) int {
	return pick(r, low, high, low+r.Intn(high-low+1))
}

// few returns a number from low to high, mostly a small one.
func few(r *rand.Rand, low, high int) int {
	return min(high, pick(r, low, low, low+1, low+1, low+2, low+3, low+r.Intn(high-low+1), high))
}

// randomRelays returns valid relays of a diagram, in any order.
func randomRelays(r *rand.Rand, s api.Station) []api.Relay {
	bays := r.Perm(len(s.Bays) + 1)
	bays = bays[:few(r, 0, len(bays))]
	name := names(r, s, len(bays))
	var l []api.Relay
	for i, bay := range bays {
		x := api.Relay{Name: name[i], Kind: api.BusRelay, Bay: -1}
		if bay < len(s.Bays) {
			x.Bay, x.Kind = bay, map[int]int{api.LineBay: api.LineRelay, api.SourceBay: api.SourceRelay, api.Coupler: api.CouplerRelay}[s.Bays[bay].Kind]
		}
		randomSettings(r, &x)
		randomLists(r, s, &x)
		l = append(l, x)
	}
	return l
}

// randomSettings gives a relay some of the settings that its kind uses.
func randomSettings(r *rand.Rand, x *api.Relay) {
	element := func(shortest int) api.Element {
		return pick(r, api.Element{}, on(between(r, 1, api.MaxSample), between(r, shortest, api.MaxDelay)))
	}
	if x.Kind != api.BusRelay {
		x.Definite, x.Fail = element(0), element(1)
		x.Inverse = pick(r, api.Curve{}, curve(between(r, 1, api.MaxSample), between(r, 1, maxDial)))
	}
	switch x.Kind {
	case api.LineRelay:
		randomDistance(r, x)
		if r.Intn(2) == 0 {
			x.Shots, x.Dead, x.Reclaim = between(r, 1, api.MaxShots), between(r, 1, api.MaxDead), between(r, 1, api.MaxReclaim)
		}
	case api.SourceRelay:
		x.Under, x.Over = element(0), element(0)
	case api.BusRelay:
		if r.Intn(3) > 0 {
			x.DiffMin, x.Den, x.Harm = between(r, 1, api.MaxSample), between(r, 1, maxDen), between(r, 0, maxHarm)
			x.Num = between(r, 0, x.Den)
		}
	}
}

// randomDistance gives a relay distance zones, and a teleprotection scheme that these allow.
func randomDistance(r *rand.Rand, x *api.Relay) {
	for i := range x.Zones {
		if r.Intn(4) > 0 {
			x.Zones[i] = api.Reach{On: true, Forward: r.Intn(3) > 0, X: between(r, 1, api.MaxReach), Right: between(r, 0, api.MaxReach), Left: between(r, 0, api.MaxReach), Delay: between(r, 0, api.MaxDelay)}
			x.Min, x.KRe, x.KIm = between(r, 1, api.MaxSample), between(r, -maxFactor, maxFactor), between(r, -maxFactor, maxFactor)
		}
	}
	schemes := []int{api.NoScheme}
	if x.Zones[1].Forward {
		schemes = append(schemes, api.Overreach)
		if x.Zones[0].Forward {
			schemes = append(schemes, api.Underreach)
		}
		if x.Zones[2].On && !x.Zones[2].Forward {
			schemes = append(schemes, api.Blocking)
		}
	}
	x.Scheme = pick(r, schemes...)
	if x.Scheme != api.NoScheme {
		x.Guard = between(r, 0, maxGuard)
	}
	if x.Scheme == api.Blocking {
		x.Wait = between(r, 1, maxWait)
	}
}

// randomLists gives a relay rules, data sets, publications and subscriptions.
func randomLists(r *rand.Rand, s api.Station, x *api.Relay) {
	// The names in lists may be those of elements of the diagram.
	known := append(names(r, s, 40), elements(s)...)
	some := func(n int) []string {
		r.Shuffle(len(known), func(i, k int) { known[i], known[k] = known[k], known[i] })
		return slices.Clone(known[:n])
	}
	for _, name := range some(few(r, 0, api.MaxRules)) {
		b := make([]byte, few(r, 0, api.MaxWord))
		for i := range b {
			b[i] = byte(' ' + r.Intn('~'-' '+1))
		}
		x.Rules = append(x.Rules, api.Rule{Name: name, Text: strings.ReplaceAll(string(b), `"`, "'")})
	}
	for _, name := range some(few(r, 0, api.MaxSets)) {
		signals := some(few(r, 1, api.MaxSignals))
		if r.Intn(4) == 0 {
			signals[0] = pick(r, reserved...)
			signals[len(signals)-1] = signals[0]
		}
		x.Sets = append(x.Sets, api.DataSet{Name: name, Signals: signals})
	}
	for _, name := range some(few(r, 0, api.MaxSets)) {
		first := between(r, 1, maxFirst)
		x.Publish = append(x.Publish, api.Publish{Set: name, First: first, Max: between(r, first, maxMax)})
	}
	for _, name := range some(few(r, 0, api.MaxSubs)) {
		x.Subs = append(x.Subs, api.Subscribe{Local: name, Device: pick(r, known...), Set: pick(r, known...), Signal: pick(r, known...)})
	}
}

// mustBeValid fails if a test's own diagram is not valid.
func mustBeValid(t *testing.T, s api.Station) {
	t.Helper()
	if e := station.Check(s); e != api.OK {
		t.Fatalf("the test's diagram %+v has error %d", s, e)
	}
}

// expectCheck fails if Check of relays of the diagram returns another index or error.
func expectCheck(t *testing.T, what string, l []api.Relay, wantAt int, want api.Errno) {
	t.Helper()
	if at, e := settings.Check(diagram(), l); at != wantAt || e != want {
		t.Errorf("P7.1: %s: Check of %s = %d, %d; want %d, %d", what, dump(l), at, e, wantAt, want)
	}
}

// expectChange changes a relay of sample, and fails if Check returns another error, or an error of another relay.
func expectChange(t *testing.T, what string, relay int, change func(x *api.Relay), want api.Errno) {
	t.Helper()
	l := sample()
	change(&l[relay])
	wantAt := relay
	if want == api.OK {
		wantAt = 0
	}
	expectCheck(t, what, l, wantAt, want)
}

// expectError fails if Decode of a text, for the diagram, has not the given error.
func expectError(t *testing.T, text string, wantLine int, want api.Errno) {
	t.Helper()
	l, line, e := settings.Decode(diagram(), parse(t, text))
	if len(l) > 0 || line != wantLine || e != want {
		t.Errorf("P7.3: Decode of %q = %s, %d, %d; want line %d, %d", text, dump(l), line, e, wantLine, want)
	}
}

// expectRelays fails if Decode of a text, for the diagram, is not the given relays.
func expectRelays(t *testing.T, text string, want ...api.Relay) {
	t.Helper()
	l, line, e := settings.Decode(diagram(), parse(t, text))
	if dump(l) != dump(want) || line != 0 || e != api.OK {
		t.Errorf("P7.3: Decode of %q = %s, %d, %d; want %s", text, dump(l), line, e, dump(want))
	}
}
