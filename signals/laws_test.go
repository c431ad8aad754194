package signals_test

import (
	"math/rand"
	"slices"
	"testing"

	"substation/api"
	"substation/signals"
)

// denoted returns the names of a place as a subscription without a local name.
func denoted(c api.Config, p signals.Place) api.Subscribe {
	r := c.Relays[p.Relay]
	return api.Subscribe{Device: r.Name, Set: r.Sets[p.Set].Name, Signal: r.Sets[p.Set].Signals[p.Item]}
}

// checkReading fails if a subscription of a configuration without errors does not denote exactly one signal, or is not a reader of its data set.
func checkReading(t *testing.T, c api.Config, relay, k int) {
	t.Helper()
	s := c.Relays[relay].Subs[k]
	s.Local = ""
	p, e := signals.Find(c, relay, k)
	if e != api.OK || p.Relay == relay || denoted(c, p) != s {
		t.Fatalf("P8.5: subscription %d of relay %d denotes %v, %d: %s", k, relay, p, e, dump(c))
	}
	for i, r := range c.Relays {
		for n := range r.Sets {
			readers := signals.Readers(c, i, n)
			count := 0
			for _, x := range readers {
				if x == (signals.Reader{Relay: relay, Sub: k}) {
					count++
				}
			}
			if here := p.Relay == i && p.Set == n; here && count != 1 || !here && count != 0 {
				t.Fatalf("P8.5: subscription %d of relay %d is %d times a reader of set %d of relay %d: %s", k, relay, count, n, i, dump(c))
			}
		}
	}
}

// checkLaws fails if a configuration without errors does not have the consequences of P8.5.
func checkLaws(t *testing.T, c api.Config) {
	t.Helper()
	all := 0
	for i, r := range c.Relays {
		for k := range r.Subs {
			checkReading(t, c, i, k)
		}
		for k := range r.Sets {
			readers := signals.Readers(c, i, k)
			all -= len(readers)
			inOrder := slices.IsSortedFunc(readers, func(a, b signals.Reader) int { return (a.Relay-b.Relay)*1000 + a.Sub - b.Sub })
			if !inOrder {
				t.Fatalf("P8.4: readers %v are not in order", readers)
			}
		}
		all += len(r.Subs)
		if names := slices.Concat(signals.Outputs(r), signals.Inputs(r)); len(slices.Compact(slices.Sorted(slices.Values(names)))) != len(names) {
			t.Fatalf("P8.3: two of the names %q are equal", names)
		}
	}
	if all != 0 {
		t.Fatalf("P8.5: the data sets have not as many readers as there are subscriptions: %s", dump(c))
	}
}

func TestLaws(t *testing.T) {
	checkLaws(t, sample())
	r := rand.New(rand.NewSource(2))
	spoiled := 0
	for range 1500 {
		c := randomConfig(r)
		checkLaws(t, c)
		spoil(r, c)
		// Names of relays and sets may occur twice here, which is not for this layer to find.
		if _, e := signals.Check(c); e == api.OK && namesDiffer(c) {
			checkLaws(t, c)
			spoiled++
		}
	}
	if spoiled < 100 {
		t.Errorf("the test has only %d spoiled configurations without an error", spoiled)
	}
}

// namesDiffer reports whether no two relays, and no two data sets of a relay, have the same name.
func namesDiffer(c api.Config) bool {
	names := map[string]bool{}
	for _, r := range c.Relays {
		sets := map[string]bool{}
		for _, s := range r.Sets {
			sets[s.Name] = true
		}
		if len(sets) < len(r.Sets) || names[r.Name] {
			return false
		}
		names[r.Name] = true
	}
	return true
}
