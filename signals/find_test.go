package signals_test

import (
	"testing"

	"substation/api"
	"substation/signals"
)

// asking returns the sample with one more subscription of the source relay, and its index.
func asking(words string) (api.Config, int) {
	c := sample()
	r := &c.Relays[ofSource]
	r.Subs = append(r.Subs, sub(words))
	return c, len(r.Subs) - 1
}

func TestFind(t *testing.T) {
	c := sample()
	for _, x := range []struct {
		relay, sub int
		want       signals.Place
	}{
		{ofLine, 0, signals.Place{Relay: ofSource, Set: 0, Item: 1}},
		{ofLine, 1, signals.Place{Relay: ofSource, Set: 0, Item: 0}},
		{ofLine, 2, signals.Place{Relay: ofBus, Set: 0, Item: 0}},
		{ofSource, 0, signals.Place{Relay: ofLine, Set: 1, Item: 1}},
		{ofSource, 1, signals.Place{Relay: ofLine, Set: 0, Item: 0}},
		{ofCoupler, 0, signals.Place{Relay: ofBus, Set: 0, Item: 1}},
		{ofCoupler, 1, signals.Place{Relay: ofLine, Set: 0, Item: 1}},
	} {
		expectFind(t, "sample", c, x.relay, x.sub, x.want, api.OK)
		expectFind(t, "sample with empty lists", emptied(c), x.relay, x.sub, x.want, api.OK)
	}
}

func TestFindOutOfRange(t *testing.T) {
	c := sample()
	for _, n := range append([]int{len(c.Relays)}, far...) {
		for _, sub := range append([]int{0, 1}, far...) {
			expectFind(t, "relay out of range", c, n, sub, signals.Place{}, api.ErrArg)
		}
	}
	for i, r := range c.Relays {
		for _, n := range append([]int{len(r.Subs)}, far...) {
			expectFind(t, "subscription out of range", c, i, n, signals.Place{}, api.ErrArg)
		}
	}
	for _, c := range []api.Config{{}, {Relays: []api.Relay{}}, {Relays: []api.Relay{{}}}, {Relays: []api.Relay{{Subs: []api.Subscribe{}}}}} {
		for _, n := range append([]int{0, 1}, far...) {
			expectFind(t, "nothing", c, n, 0, signals.Place{}, api.ErrArg)
			expectFind(t, "nothing", c, 0, n, signals.Place{}, api.ErrArg)
		}
	}
}

// TestFindErrors looks at each error of a subscription, alone and together with those that come after it.
func TestFindErrors(t *testing.T) {
	for _, x := range []struct {
		words string
		want  api.Errno
	}{
		{"n RL D trip", api.OK},
		{"n RL D zone1", api.OK},
		{"n RL F x", api.ErrMissing},
		{"n RB U trip3", api.ErrMissing},
		{"n R D trip", api.ErrUnknown},
		{"n rl D trip", api.ErrUnknown},
		{"n RL d trip", api.ErrUnknown},
		{"n RL D TRIP", api.ErrUnknown},
		{"n RLL D trip", api.ErrUnknown},
		{"n RL DD trip", api.ErrUnknown},
		{"n RL D tripp", api.ErrUnknown},
		{"n RL D fail", api.ErrUnknown}, // it is in another set
		{"n RL D close", api.ErrUnknown},
		{"n RL T trip0", api.ErrUnknown}, // another relay's set
		{"n RC D trip", api.ErrUnknown},  // no sets at all
		{"n RB T trip1", api.ErrUnknown},
		{"n RG D trip", api.ErrConflict},
		{"n RG D x", api.ErrConflict},
		{"n RG X trip", api.ErrConflict},
		{"n RG D nothing", api.ErrConflict},
		{"n RG X nothing", api.ErrConflict},
		{"n no X nothing", api.ErrUnknown},
		{"n RL X nothing", api.ErrUnknown},
		{"n RL F nothing", api.ErrMissing},
	} {
		c, i := asking(x.words)
		p, e := signals.Find(c, ofSource, i)
		if e != x.want || e != api.OK && p != (signals.Place{}) {
			t.Errorf("P8.2: Find of %s = %v, %d, want error %d", x.words, p, e, x.want)
		}
		expectFind(t, x.words+", but the relay is out of range", c, -1, i, signals.Place{}, api.ErrArg)
		expectFind(t, x.words+", but the relay is out of range", c, len(c.Relays), i, signals.Place{}, api.ErrArg)
		expectFind(t, x.words+", but the subscription is out of range", c, ofSource, i+1, signals.Place{}, api.ErrArg)
		expectFind(t, x.words+", but the subscription is out of range", c, ofSource, -1, signals.Place{}, api.ErrArg)
	}
}

// TestFindConflict looks at subscriptions of a relay to itself, whatever else is wrong with them.
func TestFindConflict(t *testing.T) {
	c, i := asking("n RG D trip")
	r := &c.Relays[ofSource]
	r.Publish = nil
	expectFind(t, "itself, not published", c, ofSource, i, signals.Place{}, api.ErrConflict)
	r.Sets = nil
	expectFind(t, "itself, without sets", c, ofSource, i, signals.Place{}, api.ErrConflict)
	r.Name = "other"
	expectFind(t, "no relay of that name", c, ofSource, i, signals.Place{}, api.ErrUnknown)
	r.Subs[i].Device = "other"
	expectFind(t, "itself by its new name", c, ofSource, i, signals.Place{}, api.ErrConflict)
}

// TestFindPublished looks at sets and publications, only one of which is there.
func TestFindPublished(t *testing.T) {
	c, i := asking("n RL F x")
	r := &c.Relays[ofLine]
	r.Publish = append(r.Publish, publish("F F")...)
	expectFind(t, "published twice", c, ofSource, i, signals.Place{Relay: ofLine, Set: 2}, api.OK)
	r.Publish = publish("D E f FF")
	expectFind(t, "not published", c, ofSource, i, signals.Place{}, api.ErrMissing)
	r.Publish = nil
	expectFind(t, "nothing published", c, ofSource, i, signals.Place{}, api.ErrMissing)
	c.Relays[ofSource].Publish = publish("F")
	c.Relays[ofBus].Publish = publish("F")
	expectFind(t, "published by others", c, ofSource, i, signals.Place{}, api.ErrMissing)
	r.Sets = r.Sets[:2]
	expectFind(t, "neither a set nor published", c, ofSource, i, signals.Place{}, api.ErrUnknown)
	r.Publish = publish("D E F")
	expectFind(t, "published, but no set", c, ofSource, i, signals.Place{}, api.ErrUnknown)
	r.Sets = nil
	expectFind(t, "published, but no sets at all", c, ofSource, i, signals.Place{}, api.ErrUnknown)
	r.Sets = []api.DataSet{{Name: "F"}}
	expectFind(t, "a set without signals", c, ofSource, i, signals.Place{}, api.ErrUnknown)
	r.Publish = nil
	expectFind(t, "a set without signals, not published", c, ofSource, i, signals.Place{}, api.ErrMissing)
}

// TestFindTwice looks at names that two relays, sets or signals have: the first one counts, even if only the second one has what is asked for.
func TestFindTwice(t *testing.T) {
	c, i := asking("n RL D y")
	second := clone(c).Relays[ofLine]
	c.Relays = append(c.Relays, second)
	expectFind(t, "two equal relays", c, ofSource, i, signals.Place{Relay: ofLine, Item: 1}, api.OK)
	c.Relays[ofLine].Sets[0] = set("D trip zone1")
	expectFind(t, "the first relay's set lacks the signal", c, ofSource, i, signals.Place{}, api.ErrUnknown)
	c.Relays[ofLine].Publish = nil
	expectFind(t, "the first relay does not publish the set", c, ofSource, i, signals.Place{}, api.ErrMissing)
	c.Relays[ofLine].Sets = nil
	expectFind(t, "the first relay lacks the set", c, ofSource, i, signals.Place{}, api.ErrUnknown)
	c.Relays[ofLine].Name = "other"
	expectFind(t, "the second relay alone", c, ofSource, i, signals.Place{Relay: 4, Item: 1}, api.OK)

	c, i = asking("n RL D y")
	r := &c.Relays[ofLine]
	r.Sets = append([]api.DataSet{set("E fail"), set("D zone1 close y")}, r.Sets...)
	expectFind(t, "two sets", c, ofSource, i, signals.Place{Relay: ofLine, Set: 1, Item: 2}, api.OK)
	r.Sets[1] = set("D zone1 close")
	expectFind(t, "the first set lacks the signal", c, ofSource, i, signals.Place{}, api.ErrUnknown)
	r.Sets[1] = set("D y trip y y")
	expectFind(t, "a signal twice", c, ofSource, i, signals.Place{Relay: ofLine, Set: 1, Item: 0}, api.OK)
	r.Sets[1] = set("D trip y trip y")
	expectFind(t, "a signal twice", c, ofSource, i, signals.Place{Relay: ofLine, Set: 1, Item: 1}, api.OK)
}

// TestFindNamesake looks at a relay that subscribes to a relay of its own name: only the first one of the name subscribes to itself.
func TestFindNamesake(t *testing.T) {
	c := sample()
	c.Relays[ofCoupler].Name = "RL"
	expectFind(t, "the second relay of a name", c, ofCoupler, 1, signals.Place{Relay: ofLine, Item: 1}, api.OK)
	c.Relays[ofLine].Subs = []api.Subscribe{sub("a RL D y")}
	expectFind(t, "the first relay of a name", c, ofLine, 0, signals.Place{}, api.ErrConflict)
	c.Relays[ofLine], c.Relays[ofCoupler] = c.Relays[ofCoupler], c.Relays[ofLine]
	expectFind(t, "the first relay of a name", c, ofLine, 1, signals.Place{}, api.ErrConflict)
	expectFind(t, "the second relay of a name", c, ofCoupler, 0, signals.Place{}, api.ErrUnknown)
}

// TestFindAnyNames looks at names that no valid configuration has.
func TestFindAnyNames(t *testing.T) {
	c := api.Config{Relays: []api.Relay{{Subs: []api.Subscribe{{}}}}}
	expectFind(t, "empty names", c, 0, 0, signals.Place{}, api.ErrConflict)
	c.Relays = append(c.Relays, c.Relays[0])
	expectFind(t, "empty names", c, 1, 0, signals.Place{}, api.ErrUnknown)
	c.Relays[0].Sets = []api.DataSet{{Signals: []string{"trip", ""}}}
	expectFind(t, "empty names", c, 1, 0, signals.Place{}, api.ErrMissing)
	c.Relays[0].Publish = []api.Publish{{}}
	expectFind(t, "empty names", c, 1, 0, signals.Place{Item: 1}, api.OK)
	c.Relays[0] = api.Relay{Name: "a b", Sets: []api.DataSet{{Name: "\xff", Signals: []string{"\""}}}, Publish: []api.Publish{{Set: "\xff"}}}
	c.Relays[1].Subs[0] = api.Subscribe{Device: "a b", Set: "\xff", Signal: "\""}
	expectFind(t, "strange names", c, 1, 0, signals.Place{}, api.OK)
}
