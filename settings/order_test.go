package settings_test

import (
	"fmt"
	"math/rand"
	"slices"
	"strings"
	"testing"

	"substation/api"
)

// reverse returns the relays of sample in reverse order, so that those with settings follow others of their kinds, and with at least two elements in each list.
func reverse() []api.Relay {
	l := sample()
	for i := range l {
		x := &l[i]
		if len(x.Rules) == 0 {
			continue
		}
		x.Rules = append(x.Rules, api.Rule{Name: "more", Text: "false"})
		x.Sets = append(x.Sets, api.DataSet{Name: "more", Signals: []string{"more", "trip"}})
		x.Publish = append(x.Publish, api.Publish{Set: "more", First: 4, Max: 8})
		x.Subs = append(x.Subs, api.Subscribe{Local: "more", Device: "R1", Set: "more", Signal: "more"})
	}
	slices.Reverse(l)
	return l
}

// damage is a change of a relay that leads to an error; rank gives the place of the error in the order of P7.1. Damages of the same rank are those of one error.
type damage struct {
	what   string
	change func(x *api.Relay)
	want   api.Errno
	rank   int
}

// damages returns changes of a relay of reverse, in the order of their errors.
func damages(at int) []damage {
	x := reverse()[at]
	var l []damage
	rank := 0
	add := func(what string, want api.Errno, change func(x *api.Relay)) {
		l = append(l, damage{fmt.Sprint("relay ", at, ": ", what), change, want, rank})
	}
	next := func(what string, want api.Errno, change func(x *api.Relay)) {
		rank++
		add(what, want, change)
	}
	next("no name", api.ErrName, func(x *api.Relay) { x.Name = "_" })
	next("name of a bus", api.ErrDuplicate, func(x *api.Relay) { x.Name = "B" })
	if at > 0 {
		add("name of a relay", api.ErrDuplicate, func(x *api.Relay) { x.Name = "R7" })
	}
	next("kind", api.ErrKind, func(x *api.Relay) { x.Kind = 5 })
	next("bay", api.ErrUnknown, func(x *api.Relay) { x.Bay = -2 })
	if other := map[int]int{api.LineRelay: 3, api.SourceRelay: 4, api.CouplerRelay: 5}[x.Kind]; other > 0 {
		next("bay of another relay", api.ErrConflict, func(x *api.Relay) { x.Bay = other })
	}
	rank++
	for field, all := range settingsOf() {
		if slices.Contains(strings.Fields(uses[x.Kind]), field) {
			continue
		}
		add("unused "+field, api.ErrConflict, func(x *api.Relay) { setLeaf(all[0].at(x), 1) })
	}
	rank++
	for _, c := range allNumbers() {
		if sample()[c.relay].Kind == x.Kind && !strings.Contains(c.what, "First") && !strings.Contains(c.what, "Max") {
			add(c.what, api.ErrRange, func(x *api.Relay) { *c.at(x) = c.high + 1 })
		}
	}
	if x.Kind == api.LineRelay {
		next("zone 2 reverse", api.ErrMissing, func(x *api.Relay) { x.Zones[1].Forward = false })
		add("zone 3 forward", api.ErrMissing, func(x *api.Relay) { x.Zones[2].Forward = true })
	}
	next("17 rules", api.ErrCount, func(x *api.Relay) { x.Rules = slices.Repeat(x.Rules, 17) })
	add("5 sets", api.ErrCount, func(x *api.Relay) { x.Sets = slices.Repeat(x.Sets, 5) })
	add("5 publications", api.ErrCount, func(x *api.Relay) { x.Publish = slices.Repeat(x.Publish, 5) })
	add("25 subscriptions", api.ErrCount, func(x *api.Relay) { x.Subs = slices.Repeat(x.Subs, 25) })
	add("25 signals", api.ErrCount, func(x *api.Relay) { x.Sets[0].Signals = slices.Repeat(x.Sets[0].Signals, 25) })
	add("no signals", api.ErrCount, func(x *api.Relay) { x.Sets[1].Signals = nil })
	return append(l, listDamages(at, rank)...)
}

// listDamages returns changes of the elements of the lists of a relay of reverse, in the order of their errors, after those of a rank.
func listDamages(at, rank int) []damage {
	x := reverse()[at]
	var l []damage
	next := func(what string, i int, want api.Errno, change func(x *api.Relay)) {
		rank++
		l = append(l, damage{fmt.Sprint("relay ", at, ": ", what, " ", i), change, want, rank})
	}
	for i := range x.Rules {
		next("name of rule", i, api.ErrName, func(x *api.Relay) { x.Rules[i].Name = "not" })
		if i > 0 {
			next("duplicate of rule", i, api.ErrDuplicate, func(x *api.Relay) { x.Rules[i].Name = x.Rules[i-1].Name })
		}
		next("long text of rule", i, api.ErrLength, func(x *api.Relay) { x.Rules[i].Text = strings.Repeat("\n", 121) })
		next("text of rule", i, api.ErrByte, func(x *api.Relay) { x.Rules[i].Text = "\"" })
	}
	for i := range x.Sets {
		next("name of set", i, api.ErrName, func(x *api.Relay) { x.Sets[i].Name = "1" })
		next("signal of set", i, api.ErrName, func(x *api.Relay) { x.Sets[i].Signals[len(x.Sets[i].Signals)-1] = "" })
		if i > 0 {
			next("duplicate of set", i, api.ErrDuplicate, func(x *api.Relay) { x.Sets[i].Name = x.Sets[i-1].Name })
		}
	}
	for i := range x.Publish {
		next("set of publication", i, api.ErrName, func(x *api.Relay) { x.Publish[i].Set = "-" })
		if i > 0 {
			next("duplicate of publication", i, api.ErrDuplicate, func(x *api.Relay) { x.Publish[i].Set = x.Publish[i-1].Set })
		}
		next("interval of publication", i, api.ErrRange, func(x *api.Relay) { x.Publish[i].First = 0 })
		next("intervals of publication", i, api.ErrRange, func(x *api.Relay) { x.Publish[i].Max = x.Publish[i].First - 1 })
	}
	for i := range x.Subs {
		next("local of subscription", i, api.ErrName, func(x *api.Relay) { x.Subs[i].Local = "." })
		next("device of subscription", i, api.ErrName, func(x *api.Relay) { x.Subs[i].Device = "" })
		next("set of subscription", i, api.ErrName, func(x *api.Relay) { x.Subs[i].Set = "9" })
		next("signal of subscription", i, api.ErrName, func(x *api.Relay) { x.Subs[i].Signal = "a b" })
		if i > 0 {
			next("duplicate of subscription", i, api.ErrDuplicate, func(x *api.Relay) { x.Subs[i].Local = x.Subs[i-1].Local })
		}
	}
	return l
}

// withSettings are the indexes of the relays of reverse that have settings.
var withSettings = []int{3, 4, 5, 6}

// TestCheckOrder damages a relay in two ways, and expects the first error.
func TestCheckOrder(t *testing.T) {
	expectCheck(t, "reverse order", reverse(), 0, api.OK)
	for _, at := range withSettings {
		all := damages(at)
		for i, first := range all {
			l := reverse()
			first.change(&l[at])
			expectCheck(t, first.what, l, at, first.want)
			for _, later := range all[i+1:] {
				if later.rank == first.rank {
					continue
				}
				l := reverse()
				later.change(&l[at])
				first.change(&l[at])
				expectCheck(t, first.what+" and "+later.what, l, at, first.want)
			}
		}
	}
}

// TestCheckFirstRelay damages two relays, and expects the error of the first one.
func TestCheckFirstRelay(t *testing.T) {
	r := rand.New(rand.NewSource(6))
	for i, at := range withSettings {
		for _, after := range withSettings[i+1:] {
			for _, first := range damages(at) {
				for range 5 {
					later := pick(r, damages(after)...)
					l := reverse()
					first.change(&l[at])
					later.change(&l[after])
					expectCheck(t, first.what+", then "+later.what, l, at, first.want)
				}
			}
		}
	}
}
