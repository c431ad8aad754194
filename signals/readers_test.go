package signals_test

import (
	"testing"

	"substation/api"
	"substation/signals"
)

// reader returns a reader: a relay and the number of its subscription.
func reader(relay, sub int) signals.Reader { return signals.Reader{Relay: relay, Sub: sub} }

func TestReaders(t *testing.T) {
	for _, c := range []api.Config{sample(), emptied(sample())} {
		expectReaders(t, "several readers in one relay and another", c, ofSource, 0, reader(ofLine, 0), reader(ofLine, 1), reader(ofCoupler, 2))
		expectReaders(t, "readers of different signals", c, ofLine, 0, reader(ofSource, 1), reader(ofCoupler, 1))
		expectReaders(t, "readers of one signal", c, ofLine, 1, reader(ofSource, 0), reader(ofCoupler, 3))
		expectReaders(t, "a set that is not published", c, ofLine, 2)
		expectReaders(t, "readers before the relay", c, ofBus, 0, reader(ofLine, 2), reader(ofCoupler, 0))
		expectReaders(t, "no reader", c, ofBus, 1)
	}
	c := sample()
	c.Relays[ofCoupler].Subs = nil
	expectReaders(t, "one reader", c, ofLine, 0, reader(ofSource, 1))
	c.Relays[ofSource].Subs = nil
	expectReaders(t, "no readers", c, ofLine, 0)
	c.Relays[ofBus].Subs = []api.Subscribe{sub("a RL D trip"), sub("b RG D x"), sub("c RL D trip"), sub("a RL D nothing"), sub("d RL D zone1")}
	expectReaders(t, "readers of one signal, and an error", c, ofLine, 0, reader(ofBus, 0), reader(ofBus, 2), reader(ofBus, 4))
}

func TestReadersOutOfRange(t *testing.T) {
	c := sample()
	c.Relays[ofLine].Subs = append(c.Relays[ofLine].Subs, sub("n R D trip"), sub("o RL D trip"), sub("p RG X trip"), sub("q RB U trip3"), sub("r RG D nothing"))
	for _, n := range append([]int{len(c.Relays)}, far...) {
		expectReaders(t, "relay out of range", c, n, 0)
		expectReaders(t, "relay out of range", c, n, -1)
		for i, r := range c.Relays {
			expectReaders(t, "set out of range", c, i, n)
			expectReaders(t, "set out of range", c, i, len(r.Sets))
		}
	}
	for _, c := range []api.Config{{}, {Relays: []api.Relay{}}, {Relays: []api.Relay{{}}}, {Relays: []api.Relay{{Subs: make([]api.Subscribe, 3)}, {Sets: []api.DataSet{{}}}}}} {
		for _, n := range append([]int{0, 1, 2}, far...) {
			expectReaders(t, "nothing", c, n, 0)
			expectReaders(t, "nothing", c, 0, n)
		}
	}
}

// TestReadersOfErrors looks at subscriptions with an error, none of which is a reader: not even of the first set of the first relay.
func TestReadersOfErrors(t *testing.T) {
	for _, words := range []string{"n R D trip", "n RL D trip", "n RL X trip", "n RG X trip", "n RL F x", "n RB U trip3", "n RL D nothing", "n RG D nothing"} {
		c := sample()
		for i := range c.Relays {
			c.Relays[i].Subs = nil
		}
		c.Relays[ofLine].Subs = []api.Subscribe{sub(words)}
		_, e := signals.Find(c, ofLine, 0)
		for i := range c.Relays {
			for k := range 4 {
				if l := signals.Readers(c, i, k); e != api.OK && len(l) > 0 {
					t.Errorf("P8.4: Readers(%d, %d) with %s = %v", i, k, words, l)
				}
			}
		}
		if e == api.OK {
			t.Errorf("P8.2: %s has no error", words)
		}
	}
}

// TestReadersTwice looks at the second of two relays or sets with one name, which has no readers.
func TestReadersTwice(t *testing.T) {
	c := sample()
	c.Relays = append(c.Relays, clone(c).Relays[ofSource])
	expectReaders(t, "the first relay of a name", c, ofSource, 0, reader(ofLine, 0), reader(ofLine, 1), reader(ofCoupler, 2))
	expectReaders(t, "the second relay of a name", c, 4, 0)
	expectReaders(t, "the second relay of a name reads", c, ofLine, 0, reader(ofSource, 1), reader(ofCoupler, 1), reader(4, 1))
	c.Relays[ofSource].Sets = nil
	expectReaders(t, "the first relay of a name without the set", c, 4, 0)
	c.Relays[ofSource].Name = "other"
	expectReaders(t, "another relay before it", c, 4, 0, reader(ofLine, 0), reader(ofLine, 1), reader(ofCoupler, 2))

	c = sample()
	c.Relays[ofLine].Sets[2] = set("D trip y zone1")
	expectReaders(t, "the first set of a name", c, ofLine, 0, reader(ofSource, 1), reader(ofCoupler, 1))
	expectReaders(t, "the second set of a name", c, ofLine, 2)
	c.Relays[ofLine].Sets[0] = set("D y")
	expectReaders(t, "the first set of a name has one of the signals", c, ofLine, 0, reader(ofCoupler, 1))
	expectReaders(t, "the second set of a name has the other one", c, ofLine, 2)
}
