package signals_test

import (
	"fmt"
	"math/rand"
	"slices"
	"strings"
	"testing"
	"unsafe"

	"substation/api"
	"substation/signals"
)

// results returns the results of all functions for a configuration, as a text.
func results(c api.Config) string {
	var b strings.Builder
	at, e := signals.Check(c)
	fmt.Fprintln(&b, at, e)
	for i := -1; i <= len(c.Relays); i++ {
		for k := -1; k < 5; k++ {
			p, e := signals.Find(c, i, k)
			fmt.Fprintf(&b, "%v %d %v\n", p, e, signals.Readers(c, i, k))
		}
	}
	for _, r := range c.Relays {
		fmt.Fprintf(&b, "%q %q %q\n", signals.Fixed(r.Kind), signals.Outputs(r), signals.Inputs(r))
	}
	return b.String()
}

// overwrite changes all elements of a list, including its spare capacity.
func overwrite[T any](l []T, x T) {
	l = l[:cap(l)]
	for i := range l {
		l[i] = x
	}
}

// TestResults looks at P2 and P3: the results of two calls are equal, also if the first one has been overwritten.
func TestResults(t *testing.T) {
	r := rand.New(rand.NewSource(3))
	for range 300 {
		c := randomConfig(r)
		if r.Intn(2) == 0 {
			spoil(r, c)
		}
		want := results(c)
		for i, x := range c.Relays {
			overwrite(signals.Fixed(x.Kind), "overwritten")
			overwrite(signals.Outputs(x), "overwritten")
			overwrite(signals.Inputs(x), "overwritten")
			for k := range x.Sets {
				overwrite(signals.Readers(c, i, k), signals.Reader{Relay: -7, Sub: -7})
			}
		}
		if got := results(c); got != want {
			t.Fatalf("P3: another result for %s:\n%s\n%s", dump(c), got, want)
		}
		if got := results(emptied(c)); got != want {
			t.Fatalf("P6: another result with empty lists for %s", dump(c))
		}
	}
}

// TestNamesShared looks at P2: the names that are returned do not keep the memory of those of the relay.
func TestNamesShared(t *testing.T) {
	text := strings.Clone("name of a rule, name of an input")
	r := api.Relay{Kind: api.BusRelay, Rules: []api.Rule{{Name: text[:14]}}, Subs: []api.Subscribe{{Local: text[16:]}}}
	begin := func(s string) uintptr { return uintptr(unsafe.Pointer(unsafe.StringData(s))) }
	kept := func(s string) bool { return begin(text) <= begin(s) && begin(s) < begin(text)+uintptr(len(text)) }
	if !kept(r.Rules[0].Name) || !kept(r.Subs[0].Local) {
		t.Fatal("the test does not see that strings are kept")
	}
	if l := signals.Outputs(r); len(l) != 17 || kept(l[16]) {
		t.Errorf("P2: Outputs keeps the memory of a rule: %q", l)
	}
	if l := signals.Inputs(r); len(l) != 1 || kept(l[0]) {
		t.Errorf("P2: Inputs keeps the memory of a subscription: %q", l)
	}
}

// roomy returns a copy of a configuration, with something in the spare capacity of all lists.
func roomy(c api.Config) api.Config {
	c = clone(c)
	for i := range c.Relays {
		r := &c.Relays[i]
		for k, s := range r.Sets {
			r.Sets[k].Signals = append(s.Signals, "spare", "trip")[:len(s.Signals)]
		}
		r.Rules = append(r.Rules, rules("spare trip")...)[:len(r.Rules)]
		r.Sets = append(r.Sets, set("spare trip"), set("D nothing"))[:len(r.Sets)]
		r.Publish = append(r.Publish, publish("spare D")...)[:len(r.Publish)]
		r.Subs = append(r.Subs, sub("spare R1 D trip"), sub("in0 R2 E p"))[:len(r.Subs)]
	}
	c.Relays = append(c.Relays, api.Relay{Name: "spare"}, api.Relay{Name: "R1"})[:len(c.Relays)]
	return c
}

// content returns all that the memory of a configuration contains, including the spare capacity of its lists.
func content(c api.Config) string {
	text := dump(c.Station)
	for _, x := range c.Relays[:cap(c.Relays)] {
		text += dump(x) + dump(x.Rules[:cap(x.Rules)]) + dump(x.Sets[:cap(x.Sets)]) + dump(x.Publish[:cap(x.Publish)]) + dump(x.Subs[:cap(x.Subs)])
		for _, s := range x.Sets {
			text += dump(s.Signals[:cap(s.Signals)])
		}
	}
	return text
}

// TestArguments looks at P2: calls change neither their arguments nor what lies behind them, and do not look at it.
func TestArguments(t *testing.T) {
	r := rand.New(rand.NewSource(4))
	for range 300 {
		c := randomConfig(r)
		if r.Intn(2) == 0 {
			spoil(r, c)
		}
		full := roomy(c)
		before := content(full)
		if results(full) != results(c) {
			t.Fatalf("P3: the spare capacity of lists changes the results for %s", dump(c))
		}
		if content(full) != before {
			t.Fatalf("P2: a call has changed its arguments: %s", before)
		}
	}
}

// TestLongLists looks at P1 with lists that are much longer than valid ones.
func TestLongLists(t *testing.T) {
	const n = 30000
	c := api.Config{Relays: make([]api.Relay, n)}
	for i := range c.Relays {
		c.Relays[i] = api.Relay{
			Name: fmt.Sprint("R", i), Kind: api.LineRelay, Sets: []api.DataSet{set("D trip")}, Publish: publish("D"),
			Subs: []api.Subscribe{sub(fmt.Sprintf("in R%d D trip", (i+1)%n))},
		}
	}
	expectCheck(t, "many relays", c, 0, api.OK)
	expectFind(t, "many relays", c, n-2, 0, signals.Place{Relay: n - 1}, api.OK)
	expectReaders(t, "many relays", c, n-1, 0, reader(n-2, 0))
	long := &c.Relays[n-1]
	for i := range n {
		name := fmt.Sprint("x", i)
		long.Rules = append(long.Rules, api.Rule{Name: name})
		long.Sets = append(long.Sets, api.DataSet{Name: name, Signals: []string{"trip", name}})
		long.Sets[0].Signals = append(long.Sets[0].Signals, name)
		long.Publish = append(long.Publish, api.Publish{Set: name})
		c.Relays[0].Subs = append(c.Relays[0].Subs, api.Subscribe{Local: name, Device: long.Name, Set: name, Signal: name})
	}
	expectCheck(t, "long lists", c, 0, api.OK)
	expectFind(t, "long lists", c, 0, n, signals.Place{Relay: n - 1, Set: n, Item: 1}, api.OK)
	expectReaders(t, "long lists", c, n-1, n, reader(0, n))
	long.Sets[n].Signals[1] = "trip"
	expectCheck(t, "long lists with an error at the end", c, 0, api.ErrUnknown)
	c.Relays[0].Subs = c.Relays[0].Subs[:n]
	expectCheck(t, "long lists with an error at the end", c, n-1, api.ErrDuplicate)
	if len(signals.Outputs(*long)) != n+10 || len(signals.Inputs(c.Relays[0])) != n {
		t.Error("P8.1: names are missing in long lists")
	}
}

// TestAnyConfig looks at P1 with configurations for which hardly anything else is promised.
func TestAnyConfig(t *testing.T) {
	strange := slices.Repeat([]api.Relay{{Kind: -1, Rules: make([]api.Rule, 2), Sets: make([]api.DataSet, 3), Publish: make([]api.Publish, 2), Subs: make([]api.Subscribe, 2)}}, 3)
	for _, c := range []api.Config{{}, {Relays: make([]api.Relay, 3)}, {Relays: strange}} {
		for _, i := range append([]int{0, 1, 2, 3}, far...) {
			for _, k := range append([]int{0, 1, 2, 3}, far...) {
				signals.Find(c, i, k)
				signals.Readers(c, i, k)
			}
		}
		compare(t, c)
	}
	expectCheck(t, "rules without names", api.Config{Relays: strange}, 0, api.ErrDuplicate)
}
