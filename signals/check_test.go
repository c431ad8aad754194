package signals_test

import (
	"slices"
	"testing"

	"substation/api"
	"substation/signals"
)

func TestCheck(t *testing.T) {
	expectCheck(t, "sample", sample(), 0, api.OK)
	expectCheck(t, "sample with empty lists", emptied(sample()), 0, api.OK)
	for _, c := range []api.Config{{}, {Relays: []api.Relay{}}, {Relays: []api.Relay{{}}}, {Relays: make([]api.Relay, 3)}, emptied(api.Config{Relays: make([]api.Relay, 3)})} {
		expectCheck(t, "nothing", c, 0, api.OK)
	}
	for kind := -1; kind <= 6; kind++ {
		expectCheck(t, "a relay without lists", api.Config{Relays: []api.Relay{{Name: "R", Kind: kind}}}, 0, api.OK)
	}
}

// change is a change of a relay of the sample, and the error that it leads to.
type change struct {
	what  string
	relay int
	do    func(r *api.Relay)
	want  api.Errno
}

// addRules returns a change of the rules of a relay.
func addRules(names string) func(r *api.Relay) {
	return func(r *api.Relay) { r.Rules = append(r.Rules, rules(names)...) }
}

// addSet returns a change of the data sets of a relay.
func addSet(words string) func(r *api.Relay) {
	return func(r *api.Relay) { r.Sets = append(r.Sets, set(words)) }
}

// addPublish returns a change of the publications of a relay.
func addPublish(sets string) func(r *api.Relay) {
	return func(r *api.Relay) { r.Publish = append(r.Publish, publish(sets)...) }
}

// addSub returns a change of the subscriptions of a relay.
func addSub(words string) func(r *api.Relay) {
	return func(r *api.Relay) { r.Subs = append(r.Subs, sub(words)) }
}

// duplicates are changes that make two names of outputs and inputs equal, or almost.
var duplicates = []change{
	{"a rule with the name of a fixed signal", ofLine, addRules("trip"), api.ErrDuplicate},
	{"a rule with the name of the last fixed signal", ofLine, addRules("started"), api.ErrDuplicate},
	{"a rule with the name of a fixed signal", ofSource, addRules("under"), api.ErrDuplicate},
	{"a rule with the name of a fixed signal", ofCoupler, addRules("over"), api.ErrDuplicate},
	{"a rule with the name of a fixed signal", ofBus, addRules("trip15"), api.ErrDuplicate},
	{"a rule with the name of a fixed signal", ofBus, addRules("trip0"), api.ErrDuplicate},
	{"a rule with the name of another kind's signal", ofLine, addRules("under over"), api.OK},
	{"a rule with the name of another kind's signal", ofSource, addRules("send zone1 transfer"), api.OK},
	{"a rule with the name of another kind's signal", ofBus, addRules("trip close trip16 trip00"), api.OK},
	{"a rule with the name of another kind's signal", ofCoupler, addRules("trip0 zone3"), api.OK},
	{"a fixed signal with a capital letter", ofLine, addRules("Trip"), api.OK},
	{"two rules with one name", ofLine, addRules("z x"), api.ErrDuplicate},
	{"two rules with one name", ofCoupler, addRules("z z"), api.ErrDuplicate},
	{"a rule with the name of a local", ofLine, addRules("c"), api.ErrDuplicate},
	{"a rule with the name of another relay's local", ofLine, addRules("g"), api.OK},
	{"a local with the name of a fixed signal", ofLine, addSub("trip RG D trip"), api.ErrDuplicate},
	{"a local with the name of a fixed signal", ofBus, addSub("trip9 RG D trip"), api.ErrDuplicate},
	{"a local with the name of a rule", ofLine, addSub("y RG D trip"), api.ErrDuplicate},
	{"two locals with one name", ofLine, addSub("a RG D x"), api.ErrDuplicate},
	{"a local with the name of another kind's signal", ofLine, addSub("under RG D x"), api.OK},
	{"a local with the name of another relay's rule", ofCoupler, addSub("x RG D x"), api.OK},
	{"a local with the name of a set", ofLine, addSub("D RG D x"), api.OK},
	{"a local with the name of its relay", ofLine, addSub("RL RG D x"), api.OK},
	{"two rules without names", ofLine, func(r *api.Relay) { r.Rules = append(r.Rules, make([]api.Rule, 2)...) }, api.ErrDuplicate},
	{"a rule without a name", ofLine, func(r *api.Relay) { r.Rules = append(r.Rules, api.Rule{}) }, api.OK},
}

// setChanges are changes of data sets.
var setChanges = []change{
	{"a set with all outputs", ofLine, addSet("G " + fixed[1] + " y x"), api.OK},
	{"a set with all outputs", ofSource, addSet("G x " + fixed[2]), api.OK},
	{"a set with all outputs", ofCoupler, addSet("G " + fixed[3]), api.OK},
	{"a set with all outputs", ofBus, addSet("G " + fixed[4]), api.OK},
	{"a signal that is no output", ofLine, addSet("G trip nothing"), api.ErrUnknown},
	{"a first signal that is no output", ofLine, addSet("G nothing trip"), api.ErrUnknown},
	{"a signal of another kind", ofLine, addSet("G under"), api.ErrUnknown},
	{"a signal of another kind", ofCoupler, addSet("G send"), api.ErrUnknown},
	{"a signal of another kind", ofBus, addSet("G trip"), api.ErrUnknown},
	{"a bay too many", ofBus, addSet("G trip15 trip16"), api.ErrUnknown},
	{"a local as a signal", ofLine, addSet("G a"), api.ErrUnknown},
	{"another relay's rule", ofCoupler, addSet("G x"), api.ErrUnknown},
	{"a set's own name", ofLine, addSet("G G"), api.ErrUnknown},
	{"a signal without a name", ofLine, func(r *api.Relay) { r.Sets[0].Signals[1] = "" }, api.ErrUnknown},
	{"a signal in another case", ofLine, addSet("G X"), api.ErrUnknown},
	{"a signal twice in one set", ofLine, addSet("G trip fail trip"), api.ErrDuplicate},
	{"a rule twice in one set", ofLine, addSet("G x x"), api.ErrDuplicate},
	{"a signal in two sets", ofLine, addSet("G trip y x"), api.OK},
	{"a signal twice in the first set", ofLine, func(r *api.Relay) { r.Sets[0] = set("D trip trip") }, api.ErrDuplicate},
	{"a signal twice, then no output", ofLine, addSet("G x x nothing"), api.ErrDuplicate},
	{"no output, then a signal twice", ofLine, addSet("G nothing x x"), api.ErrUnknown},
	{"a signal that is no output twice", ofLine, addSet("G x nothing nothing"), api.ErrUnknown},
	{"no output between a signal twice", ofLine, addSet("G x nothing x"), api.ErrUnknown},
	{"a set without signals", ofLine, func(r *api.Relay) { r.Sets = append(r.Sets, api.DataSet{Name: "G"}) }, api.OK},
	{"two sets with one name", ofLine, addSet("D trip"), api.OK},
	{"an error in the second set of a name", ofLine, addSet("D trip trip"), api.ErrDuplicate},
	{"an error in the second set of a name", ofLine, addSet("D under"), api.ErrUnknown},
}

// publishChanges are changes of publications.
var publishChanges = []change{
	{"a publication without its set", ofLine, addPublish("G"), api.ErrUnknown},
	{"a publication without its set between others", ofLine, addPublish("D G E"), api.ErrUnknown},
	{"a publication of another relay's set", ofLine, addPublish("T"), api.ErrUnknown},
	{"a publication of a relay without sets", ofCoupler, addPublish("D"), api.ErrUnknown},
	{"a publication of a signal", ofLine, addPublish("trip"), api.ErrUnknown},
	{"a publication without a name", ofLine, func(r *api.Relay) { r.Publish = append(r.Publish, api.Publish{}) }, api.ErrUnknown},
	{"a publication in another case", ofLine, addPublish("d"), api.ErrUnknown},
	{"a publication twice", ofLine, addPublish("D D"), api.OK},
	{"all sets published", ofLine, addPublish("F"), api.OK},
	{"a publication of two sets with one name", ofBus, func(r *api.Relay) { addSet("U trip1")(r); addPublish("U")(r) }, api.OK},
}

// subChanges are changes of subscriptions.
var subChanges = []change{
	{"no relay of that name", ofLine, addSub("n R D trip"), api.ErrUnknown},
	{"itself", ofLine, addSub("n RL D trip"), api.ErrConflict},
	{"no such set", ofLine, addSub("n RG E trip"), api.ErrUnknown},
	{"a set that is not published", ofSource, addSub("n RL F x"), api.ErrMissing},
	{"no such signal", ofLine, addSub("n RG D fail"), api.ErrUnknown},
	{"a signal that is subscribed to twice", ofLine, addSub("n RG D trip"), api.OK},
	{"a later relay's signal", ofSource, addSub("n RB T trip0"), api.OK},
	{"an earlier relay's signal", ofBus, addSub("n RL D zone1"), api.OK},
	{"an empty subscription", ofBus, func(r *api.Relay) { r.Subs = append(r.Subs, api.Subscribe{}) }, api.ErrUnknown},
	{"a conflict, then others", ofLine, func(r *api.Relay) {
		r.Subs = append([]api.Subscribe{sub("l RG D x"), sub("n RL D trip"), sub("m R D trip")}, r.Subs...)
	}, api.ErrConflict},
	{"no such set, then others", ofLine, func(r *api.Relay) {
		r.Subs = append([]api.Subscribe{sub("m RG X trip"), sub("n RL D trip")}, r.Subs...)
	}, api.ErrUnknown},
}

// allChanges returns the changes of the tests in the order of P8.3.
func allChanges() [][]change {
	return [][]change{duplicates, setChanges, publishChanges, subChanges}
}

func TestCheckChanges(t *testing.T) {
	for _, l := range allChanges() {
		for _, x := range l {
			c := sample()
			x.do(&c.Relays[x.relay])
			want := x.relay
			if x.want == api.OK {
				want = 0
			}
			expectCheck(t, x.what+" ("+c.Relays[x.relay].Name+")", c, want, x.want)
		}
	}
}

// TestCheckOrder looks at pairs of errors of one relay: the one that P8.3 names first is returned.
func TestCheckOrder(t *testing.T) {
	all := allChanges()
	for i, early := range all {
		for _, late := range all[i+1:] {
			for _, a := range early {
				for _, b := range late {
					if a.relay != b.relay || a.want == api.OK || b.want == api.OK {
						continue
					}
					c := sample()
					b.do(&c.Relays[b.relay])
					a.do(&c.Relays[a.relay])
					expectCheck(t, a.what+", and "+b.what, c, a.relay, a.want)
				}
			}
		}
	}
}

// TestCheckRelays looks at pairs of errors of two relays: that of the first relay is returned, whatever it is.
func TestCheckRelays(t *testing.T) {
	l := slices.Concat(allChanges()...)
	for _, a := range l {
		for _, b := range l {
			if a.relay >= b.relay || a.want == api.OK || b.want == api.OK {
				continue
			}
			c := sample()
			a.do(&c.Relays[a.relay])
			b.do(&c.Relays[b.relay])
			expectCheck(t, a.what+", and then "+b.what, c, a.relay, a.want)
		}
	}
}

// TestCheckSetErrors looks at the order of the errors of several sets.
func TestCheckSetErrors(t *testing.T) {
	c := sample()
	r := &c.Relays[ofLine]
	r.Sets[1], r.Sets[2] = set("E trip trip"), set("F nothing")
	expectCheck(t, "the second set is the first with an error", c, ofLine, api.ErrDuplicate)
	r.Sets[1], r.Sets[2] = r.Sets[2], r.Sets[1]
	expectCheck(t, "the second set is the first with an error", c, ofLine, api.ErrUnknown)
	r.Sets[0] = set("D fail fail nothing")
	expectCheck(t, "the first set has an error", c, ofLine, api.ErrDuplicate)
	r.Kind = 0
	expectCheck(t, "a kind without fixed signals", c, ofLine, api.ErrUnknown)
	r.Rules = rules("fail")
	expectCheck(t, "a rule in the place of a fixed signal", c, ofLine, api.ErrDuplicate)
}

// TestCheckOthers looks at relays with an error that another relay causes.
func TestCheckOthers(t *testing.T) {
	c := sample()
	c.Relays[ofBus].Publish = nil
	expectCheck(t, "the last relay does not publish", c, ofLine, api.ErrMissing)
	c = sample()
	c.Relays[ofLine].Sets[1] = set("E fail")
	expectCheck(t, "the first relay's set lacks a signal", c, ofSource, api.ErrUnknown)
	c = sample()
	c.Relays[ofLine].Sets[0].Name = "G"
	c.Relays[ofLine].Publish = publish("E G")
	expectCheck(t, "the first relay's set has another name", c, ofSource, api.ErrUnknown)
	c = sample()
	c.Relays[ofCoupler].Name = "RB"
	expectCheck(t, "two relays with one name, which the first relay asks", c, ofLine, api.ErrUnknown)
	c.Relays[ofLine].Subs = nil
	expectCheck(t, "two relays with one name, the first of which asks the second", c, ofCoupler, api.ErrConflict)
	c = sample()
	c.Relays[ofBus].Name = "RL"
	expectCheck(t, "no relay of that name", c, ofLine, api.ErrUnknown)
	c.Relays = append([]api.Relay{{Name: "RG"}}, sample().Relays...)
	expectCheck(t, "another relay of that name before all", c, 1, api.ErrUnknown)
	c.Relays[0].Name = "R"
	expectCheck(t, "another relay before all", c, 0, api.OK)
}

// TestCheckStation looks at a diagram that does not fit, which Check does not look at.
func TestCheckStation(t *testing.T) {
	c := sample()
	c.Station = api.Station{Name: "trip", Buses: []string{"RL", "x"}, Bays: []api.Bay{{Name: "RL"}}}
	for i := range c.Relays {
		c.Relays[i].Bay, c.Relays[i].Min = 99, -1
	}
	expectCheck(t, "a diagram that does not fit", c, 0, api.OK)
	if p, e := signals.Find(c, ofLine, 0); p != (signals.Place{Relay: ofSource, Item: 1}) || e != api.OK {
		t.Errorf("P8.2: Find = %v, %d", p, e)
	}
}
