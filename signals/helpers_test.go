package signals_test

import (
	"fmt"
	"math"
	"slices"
	"strings"
	"testing"

	"substation/api"
	"substation/signals"
)

// The indexes of the relays of sample.
const (
	ofLine, ofSource, ofCoupler, ofBus = 0, 1, 2, 3
)

// far are numbers that are the index of nothing in short lists.
var far = []int{math.MinInt, -1000, -2, -1, 1000, math.MaxInt}

// rules returns rules with names, and texts that are not of interest.
func rules(names string) []api.Rule {
	var l []api.Rule
	for _, name := range strings.Fields(names) {
		l = append(l, api.Rule{Name: name, Text: "true"})
	}
	return l
}

// set returns a data set: its name, and its signals.
func set(words string) api.DataSet {
	l := strings.Fields(words)
	return api.DataSet{Name: l[0], Signals: l[1:]}
}

// publish returns publications of data sets.
func publish(sets string) []api.Publish {
	var l []api.Publish
	for i, name := range strings.Fields(sets) {
		l = append(l, api.Publish{Set: name, First: i + 1, Max: 9})
	}
	return l
}

// sub returns a subscription: its local name, device, set and signal.
func sub(words string) api.Subscribe {
	l := strings.Fields(words)
	return api.Subscribe{Local: l[0], Device: l[1], Set: l[2], Signal: l[3]}
}

// sample returns a configuration without errors, with one relay of each kind.
func sample() api.Config {
	return api.Config{
		Station: api.Station{Name: "S", Buses: []string{"A"}},
		Relays: []api.Relay{
			{
				Name: "RL", Kind: api.LineRelay, Bay: 0, Rules: rules("x y"),
				Sets:    []api.DataSet{set("D trip y zone1"), set("E fail trip"), set("F x")},
				Publish: publish("E D"),
				Subs:    []api.Subscribe{sub("a RG D trip"), sub("b RG D over"), sub("c RB T trip0")},
			},
			{
				Name: "RG", Kind: api.SourceRelay, Bay: 1, Rules: rules("x"),
				Sets:    []api.DataSet{set("D over trip x")},
				Publish: publish("D"),
				Subs:    []api.Subscribe{sub("a RL E trip"), sub("d RL D trip")},
			},
			{
				Name: "RC", Kind: api.CouplerRelay, Bay: 2,
				Subs: []api.Subscribe{sub("trip15 RB T trip15"), sub("g RL D y"), sub("h RG D trip"), sub("i RL E trip")},
			},
			{
				Name: "RB", Kind: api.BusRelay, Bay: -1,
				Sets: []api.DataSet{set("T trip0 trip15"), set("U trip3")}, Publish: publish("T"),
			},
		},
	}
}

// clone returns a copy of a configuration that shares no lists with it.
func clone(c api.Config) api.Config {
	c.Relays = slices.Clone(c.Relays)
	for i := range c.Relays {
		r := &c.Relays[i]
		r.Rules, r.Sets, r.Publish, r.Subs = slices.Clone(r.Rules), slices.Clone(r.Sets), slices.Clone(r.Publish), slices.Clone(r.Subs)
		for k, s := range r.Sets {
			r.Sets[k].Signals = slices.Clone(s.Signals)
		}
	}
	return c
}

// emptied returns a copy of a configuration with empty lists instead of nil.
func emptied(c api.Config) api.Config {
	c = clone(c)
	c.Relays = append([]api.Relay{}, c.Relays...)
	for i := range c.Relays {
		r := &c.Relays[i]
		r.Rules, r.Sets = append([]api.Rule{}, r.Rules...), append([]api.DataSet{}, r.Sets...)
		r.Publish, r.Subs = append([]api.Publish{}, r.Publish...), append([]api.Subscribe{}, r.Subs...)
		for k, s := range r.Sets {
			r.Sets[k].Signals = append([]string{}, s.Signals...)
		}
	}
	return c
}

// dump returns a value as a text.
func dump(v any) string { return fmt.Sprintf("%+v", v) }

// expectFind fails if Find does not return a place or an error.
func expectFind(t *testing.T, what string, c api.Config, relay, sub int, want signals.Place, wantError api.Errno) {
	t.Helper()
	if p, e := signals.Find(c, relay, sub); p != want || e != wantError {
		t.Errorf("P8.2: %s: Find(%d, %d) = %v, %d, want %v, %d", what, relay, sub, p, e, want, wantError)
	}
}

// expectCheck fails if Check does not return an index and an error.
func expectCheck(t *testing.T, what string, c api.Config, want int, wantError api.Errno) {
	t.Helper()
	if at, e := signals.Check(c); at != want || e != wantError {
		t.Errorf("P8.3: %s: Check = %d, %d, want %d, %d", what, at, e, want, wantError)
	}
}

// expectReaders fails if Readers does not return subscriptions, each of them a relay and a number.
func expectReaders(t *testing.T, what string, c api.Config, relay, set int, want ...signals.Reader) {
	t.Helper()
	if l := signals.Readers(c, relay, set); !slices.Equal(l, want) {
		t.Errorf("P8.4: %s: Readers(%d, %d) = %v, want %v", what, relay, set, l, want)
	}
}
