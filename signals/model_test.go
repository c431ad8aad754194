package signals_test

import (
	"fmt"
	"math/rand"
	"slices"
	"strings"
	"testing"

	"substation/api"
	"substation/signals"
)

// modelOutputs returns the names of all signals of a relay.
func modelOutputs(r api.Relay) []string {
	l := strings.Fields(fixed[r.Kind])
	for i := range r.Rules {
		l = append(l, r.Rules[i].Name)
	}
	return l
}

// modelFind returns what a subscription denotes: it looks for the first place of all signals that has the three names.
func modelFind(c api.Config, relay, sub int) (signals.Place, api.Errno) {
	if relay < 0 || relay >= len(c.Relays) || sub < 0 || sub >= len(c.Relays[relay].Subs) {
		return signals.Place{}, api.ErrArg
	}
	s := c.Relays[relay].Subs[sub]
	i := slices.IndexFunc(c.Relays, func(r api.Relay) bool { return r.Name == s.Device })
	switch {
	case i < 0:
		return signals.Place{}, api.ErrUnknown
	case i == relay:
		return signals.Place{}, api.ErrConflict
	}
	k := slices.IndexFunc(c.Relays[i].Sets, func(d api.DataSet) bool { return d.Name == s.Set })
	if k < 0 {
		return signals.Place{}, api.ErrUnknown
	}
	if !slices.ContainsFunc(c.Relays[i].Publish, func(p api.Publish) bool { return p.Set == s.Set }) {
		return signals.Place{}, api.ErrMissing
	}
	n := slices.Index(c.Relays[i].Sets[k].Signals, s.Signal)
	if n < 0 {
		return signals.Place{}, api.ErrUnknown
	}
	return signals.Place{Relay: i, Set: k, Item: n}, api.OK
}

// modelErrors returns all errors of a relay, in the order of P8.3.
func modelErrors(c api.Config, relay int) []api.Errno {
	var l []api.Errno
	r := c.Relays[relay]
	outputs := modelOutputs(r)
	names := slices.Clone(outputs)
	for _, s := range r.Subs {
		names = append(names, s.Local)
	}
	slices.Sort(names)
	if len(slices.Compact(names)) < len(outputs)+len(r.Subs) {
		l = append(l, api.ErrDuplicate)
	}
	for _, s := range r.Sets {
		for i, name := range s.Signals {
			if !slices.Contains(outputs, name) {
				l = append(l, api.ErrUnknown)
			}
			if slices.Contains(s.Signals[:i], name) {
				l = append(l, api.ErrDuplicate)
			}
		}
	}
	for _, p := range r.Publish {
		if !slices.ContainsFunc(r.Sets, func(d api.DataSet) bool { return d.Name == p.Set }) {
			l = append(l, api.ErrUnknown)
		}
	}
	for i := range r.Subs {
		if _, e := modelFind(c, relay, i); e != api.OK {
			l = append(l, e)
		}
	}
	return l
}

// modelCheck returns the first relay that has an error, and the error.
func modelCheck(c api.Config) (int, api.Errno) {
	for i := range c.Relays {
		if l := modelErrors(c, i); len(l) > 0 {
			return i, l[0]
		}
	}
	return 0, api.OK
}

// modelReaders returns the subscriptions of a data set.
func modelReaders(c api.Config, relay, set int) []signals.Reader {
	var l []signals.Reader
	for i, r := range c.Relays {
		for k := range r.Subs {
			if p, e := modelFind(c, i, k); e == api.OK && p.Relay == relay && p.Set == set {
				l = append(l, signals.Reader{Relay: i, Sub: k})
			}
		}
	}
	return l
}

// pick returns one of the elements of a list.
func pick[T any](r *rand.Rand, l []T) T { return l[r.Intn(len(l))] }

// some returns at most n different elements of a list, in any order.
func some[T any](r *rand.Rand, l []T, n int) []T {
	l = slices.Clone(l)
	r.Shuffle(len(l), func(i, k int) { l[i], l[k] = l[k], l[i] })
	return l[:r.Intn(min(n, len(l))+1)]
}

// randomRelay returns a relay without subscriptions and without errors.
func randomRelay(r *rand.Rand, name string) api.Relay {
	x := api.Relay{Name: name, Kind: r.Intn(4) + 1, Rules: rules(strings.Join(some(r, []string{"p", "q", "r", "s"}, 4), " "))}
	for _, name := range some(r, []string{"D", "E", "F", "G"}, 4) {
		x.Sets = append(x.Sets, api.DataSet{Name: name, Signals: some(r, modelOutputs(x), 6)})
		if r.Intn(4) > 0 {
			x.Publish = append(x.Publish, publish(name)...)
		}
	}
	return x
}

// places returns subscriptions of all signals that a relay can subscribe to, with the same local name.
func places(c api.Config, relay int) []api.Subscribe {
	var l []api.Subscribe
	for i, r := range c.Relays {
		for _, s := range r.Sets {
			for _, name := range s.Signals {
				if i != relay && slices.ContainsFunc(r.Publish, func(p api.Publish) bool { return p.Set == s.Name }) {
					l = append(l, api.Subscribe{Device: r.Name, Set: s.Name, Signal: name})
				}
			}
		}
	}
	return l
}

// randomConfig returns a configuration without errors.
func randomConfig(r *rand.Rand) api.Config {
	var c api.Config
	for _, name := range some(r, []string{"R1", "R2", "R3", "R4", "R5"}, 5) {
		c.Relays = append(c.Relays, randomRelay(r, name))
	}
	for i := range c.Relays {
		for k, s := range some(r, places(c, i), 8) {
			s.Local = fmt.Sprint("in", k)
			c.Relays[i].Subs = append(c.Relays[i].Subs, s)
		}
	}
	return c
}

// texts returns pointers to all names of the relays of a configuration.
func texts(c api.Config) []*string {
	var l []*string
	for i := range c.Relays {
		r := &c.Relays[i]
		l = append(l, &r.Name)
		for k := range r.Rules {
			l = append(l, &r.Rules[k].Name)
		}
		for k := range r.Sets {
			l = append(l, &r.Sets[k].Name)
			for n := range r.Sets[k].Signals {
				l = append(l, &r.Sets[k].Signals[n])
			}
		}
		for k := range r.Publish {
			l = append(l, &r.Publish[k].Set)
		}
		for k := range r.Subs {
			s := &r.Subs[k]
			l = append(l, &s.Local, &s.Device, &s.Set, &s.Signal)
		}
	}
	return l
}

// spoil gives some names of a configuration other names, most of which occur elsewhere in it, and changes its lists.
func spoil(r *rand.Rand, c api.Config) {
	for range r.Intn(4) {
		l := texts(c)
		if len(l) == 0 {
			return
		}
		name := *pick(r, l)
		if r.Intn(4) == 0 {
			name = pick(r, []string{"", "trip", "zone1", "under", "trip0", "trip15", "R1", "D", "in0", "p"})
		}
		*pick(r, l) = name
		x := &c.Relays[r.Intn(len(c.Relays))]
		switch r.Intn(12) {
		case 0:
			x.Kind = r.Intn(7) - 1
		case 1:
			x.Rules = append(x.Rules, x.Rules...)
		case 2:
			x.Sets = append(x.Sets, some(r, x.Sets, 2)...)
		case 3:
			x.Publish = some(r, x.Publish, 4)
		case 4:
			x.Sets = some(r, x.Sets, 4)
		case 5:
			x.Subs = append(x.Subs, pick(r, c.Relays).Subs...)
		case 6:
			x.Subs = append(x.Subs, api.Subscribe{Local: "own", Device: x.Name, Set: "D", Signal: "trip"})
		}
	}
}

// compare fails if the functions do not return what the model does.
func compare(t *testing.T, c api.Config) {
	t.Helper()
	at, e := signals.Check(c)
	if wantAt, want := modelCheck(c); at != wantAt || e != want {
		t.Fatalf("P8.3: Check of %s = %d, %d, want %d, %d", dump(c), at, e, wantAt, want)
	}
	for i := -1; i <= len(c.Relays); i++ {
		for k := -1; k < 12; k++ {
			p, e := signals.Find(c, i, k)
			if wantPlace, want := modelFind(c, i, k); p != wantPlace || e != want {
				t.Fatalf("P8.2: Find(%d, %d) of %s = %v, %d, want %v, %d", i, k, dump(c), p, e, wantPlace, want)
			}
		}
		for k := -1; k < 7; k++ {
			if l, want := signals.Readers(c, i, k), modelReaders(c, i, k); !slices.Equal(l, want) {
				t.Fatalf("P8.4: Readers(%d, %d) of %s = %v, want %v", i, k, dump(c), l, want)
			}
		}
	}
	for _, r := range c.Relays {
		if l, want := signals.Outputs(r), modelOutputs(r); !slices.Equal(l, want) {
			t.Fatalf("P8.1: Outputs of %s = %q, want %q", dump(r), l, want)
		}
	}
}

// TestModel compares with a second implementation.
func TestModel(t *testing.T) {
	compare(t, sample())
	r := rand.New(rand.NewSource(1))
	seen := map[api.Errno]int{}
	for range 2500 {
		c := randomConfig(r)
		if at, e := modelCheck(c); at != 0 || e != api.OK {
			t.Fatalf("the configuration %s of the test has error %d", dump(c), e)
		}
		compare(t, c)
		spoil(r, c)
		compare(t, c)
		_, e := modelCheck(c)
		seen[e]++
	}
	for _, e := range []api.Errno{api.OK, api.ErrDuplicate, api.ErrUnknown, api.ErrConflict, api.ErrMissing} {
		if seen[e] < 20 {
			t.Errorf("the test has only %d configurations with error %d", seen[e], e)
		}
	}
}
