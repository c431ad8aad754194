package settings_test

import (
	"fmt"
	"math/rand"
	"slices"
	"strings"
	"testing"

	"substation/api"
	"substation/settings"
	"substation/syntax"
)

// checkRoundTrip fails if the statements of valid relays, also as a text where it is not too long, are not those of the same relays.
func checkRoundTrip(t *testing.T, s api.Station, l []api.Relay) {
	t.Helper()
	if at, e := settings.Check(s, l); at != 0 || e != api.OK {
		t.Fatalf("P7.1: Check of %s = %d, %d", dump(l), at, e)
	}
	items := settings.Encode(s, l)
	back, line, e := settings.Decode(s, items)
	if line != 0 || e != api.OK || !slices.EqualFunc(back, l, settings.Same) || dump(back) != dump(l) {
		t.Errorf("P7.5: %s is encoded and decoded as %s, %d, %d", dump(l), dump(back), line, e)
	}
	few := syntax.Count(items) <= api.MaxItems
	if e := syntax.Check(items); few != (e == api.OK) || !few && e != api.ErrCount {
		t.Errorf("P7.4: Encode of %s has error %d: %s", dump(l), e, dump(items))
	}
	text := syntax.Format(items)
	if !few || len(text) > api.MaxText {
		return
	}
	back, line, e = settings.Decode(s, parse(t, text))
	if line != 0 || e != api.OK || dump(back) != dump(l) {
		t.Errorf("P7.5: the text of %s is decoded as %s, %d, %d", dump(l), dump(back), line, e)
	}
}

func TestRoundTrip(t *testing.T) {
	checkRoundTrip(t, diagram(), nil)
	checkRoundTrip(t, diagram(), sample())
	checkRoundTrip(t, diagram(), reverse())
	r := rand.New(rand.NewSource(5))
	for i := range 1500 {
		s := diagram()
		if i%4 == 0 {
			s = full()
		}
		checkRoundTrip(t, s, randomRelays(r, s))
	}
	for _, c := range allNumbers() {
		for _, n := range []int{c.low, c.high} {
			l := sample()
			*c.at(&l[c.relay]) = n
			checkRoundTrip(t, diagram(), l)
		}
	}
}

// largest returns a relay of a kind for a bay with all settings, all lists as long as they may be, and the longest texts.
func largest(kind, bay int) api.Relay {
	name := func(letter string, i int) string { return fmt.Sprintf("%s_________%02d", letter, i) }
	x := sample()[kind-1]
	x.Name, x.Bay = name("R", bay+1), bay
	if kind == api.LineRelay {
		x.Zones = [3]api.Reach{ahead(4000, 4000, 4000, 500), ahead(4000, 4000, 4000, 500), behind(4000, 4000, 4000, 500)}
		x.Min, x.KRe, x.KIm, x.Wait, x.Guard = 16383, -200, -200, 50, 50
	}
	x.Rules, x.Sets, x.Publish, x.Subs = nil, nil, nil, nil
	for i := range api.MaxRules {
		x.Rules = append(x.Rules, api.Rule{Name: name("x", i), Text: strings.Repeat("~", api.MaxWord)})
	}
	for i := range api.MaxSets {
		set := api.DataSet{Name: name("D", i)}
		for k := range api.MaxSignals {
			set.Signals = append(set.Signals, name("s", k))
		}
		x.Sets = append(x.Sets, set)
		x.Publish = append(x.Publish, api.Publish{Set: set.Name, First: 100, Max: 1000})
	}
	for i := range api.MaxSubs {
		x.Subs = append(x.Subs, api.Subscribe{Local: name("i", i), Device: x.Name, Set: name("D", 1), Signal: name("s", i)})
	}
	return x
}

// TestRoundTripLargest looks at relays with more statements than syntax.Check accepts.
func TestRoundTripLargest(t *testing.T) {
	s := full()
	var l []api.Relay
	for i, b := range s.Bays {
		l = append(l, largest(b.Kind, i))
	}
	l = append(l, largest(api.BusRelay, -1))
	for n := range len(l) + 1 {
		checkRoundTrip(t, s, l[:n])
	}
	items := settings.Encode(s, l)
	if n := syntax.Count(items); n <= api.MaxItems || syntax.Check(items) != api.ErrCount {
		t.Errorf("P7.5: the largest list has %d statements only", n)
	}
}

// TestDecodedRelays decodes texts of all kinds, and checks what it gets.
func TestDecodedRelays(t *testing.T) {
	r := rand.New(rand.NewSource(7))
	valid := 0
	for range 5000 {
		s := diagram()
		l, line, e := settings.Decode(s, spoil(r, s, randomRelays(r, s)))
		if e != api.OK {
			continue
		}
		if at, e := settings.Check(s, l); line != 0 || at != 0 || e != api.OK {
			t.Fatalf("P7.5: Decode returned line %d and %s, whose relay %d has error %d", line, dump(l), at, e)
		}
		if len(l) > 0 {
			valid++
		}
	}
	if valid < 500 {
		t.Errorf("only %d of the texts have relays", valid)
	}
}
