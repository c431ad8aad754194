package settings_test

import (
	"fmt"
	"math"
	"math/rand"
	"reflect"
	"slices"
	"strings"
	"testing"
	"unsafe"

	"substation/api"
	"substation/settings"
	"substation/station"
)

// memory is a set of places of memory of some lists, including their spare capacity.
type memory map[any]bool

// occupy adds the places of a list, and returns whether none of them was there before.
func occupy[T any](m memory, l []T) bool {
	ok := true
	l = l[:cap(l)]
	for i := range l {
		ok = ok && !m[&l[i]]
		m[&l[i]] = true
	}
	return ok
}

// addRelays adds the places of relays.
func (m memory) addRelays(l []api.Relay) bool {
	ok := occupy(m, l)
	for _, x := range l {
		ok = occupy(m, x.Rules) && ok
		ok = occupy(m, x.Sets) && ok
		ok = occupy(m, x.Publish) && ok
		ok = occupy(m, x.Subs) && ok
		for _, set := range x.Sets {
			ok = occupy(m, set.Signals) && ok
		}
	}
	return ok
}

// addItems adds the places of statements.
func (m memory) addItems(l []api.Item) bool {
	ok := occupy(m, l)
	for _, item := range l {
		ok = occupy(m, item.Words) && ok
		ok = m.addItems(item.Kids) && ok
	}
	return ok
}

// TestResults looks at P2 and P3: the results of two calls are equal, and no memory is shared within a result or between two results.
func TestResults(t *testing.T) {
	r := rand.New(rand.NewSource(1))
	for range 300 {
		s := diagram()
		l := randomRelays(r, s)
		items := settings.Encode(s, l)
		m := memory{}
		m.addRelays(l)
		if !m.addItems(items) {
			t.Fatalf("P2: Encode of %s shares memory", dump(l))
		}
		for range 2 {
			again := settings.Encode(s, l)
			if !m.addItems(again) {
				t.Fatalf("P2: Encode of %s shares memory", dump(l))
			}
			back, line, e := settings.Decode(s, items)
			if !m.addRelays(back) {
				t.Fatalf("P2: Decode of %s shares memory", dump(items))
			}
			if dump(back) != dump(l) || line != 0 || e != api.OK || dump(again) != dump(items) {
				t.Fatalf("P3: another result for %s", dump(l))
			}
		}
	}
}

// texts returns all strings of a value.
func texts(v reflect.Value) []string {
	var l []string
	switch v.Kind() {
	case reflect.Struct:
		for i := range v.NumField() {
			l = append(l, texts(v.Field(i))...)
		}
	case reflect.Slice, reflect.Array:
		for i := range v.Len() {
			l = append(l, texts(v.Index(i))...)
		}
	case reflect.String:
		l = append(l, v.String())
	}
	return l
}

// retained reports whether a string of a result has its bytes in the memory of a string of an argument.
func retained(argument, result any) bool {
	begin := func(s string) uintptr { return uintptr(unsafe.Pointer(unsafe.StringData(s))) }
	for _, a := range texts(reflect.ValueOf(argument)) {
		for _, b := range texts(reflect.ValueOf(result)) {
			if a != "" && b != "" && begin(a) < begin(b)+uintptr(len(b)) && begin(b) < begin(a)+uintptr(len(a)) {
				return true
			}
		}
	}
	return false
}

// TestTexts looks at P2: the results do not keep the strings of the arguments.
func TestTexts(t *testing.T) {
	// The names of a text that is parsed, unlike those of sample, are in memory of their own.
	items := parse(t, strings.Clone(sampleText))
	if !retained(items, cloneItems(items)) {
		t.Fatal("the test does not see that strings are kept")
	}
	relays, _, e := settings.Decode(diagram(), items)
	if e != api.OK || retained(items, relays) {
		t.Error("P2: Decode keeps strings of the statements")
	}
	again := settings.Encode(diagram(), relays)
	if len(again) == 0 || retained(relays, again) {
		t.Error("P2: Encode keeps strings of the relays")
	}
}

// roomyRelays returns a copy of relays, with something in the spare capacity of all lists.
func roomyRelays(l []api.Relay) []api.Relay {
	l = clone(l)
	for i := range l {
		x := &l[i]
		for k, set := range x.Sets {
			x.Sets[k].Signals = append(set.Signals, "spare", "1")[:len(set.Signals)]
		}
		x.Rules = append(x.Rules, api.Rule{Name: "spare"}, api.Rule{})[:len(x.Rules)]
		x.Sets = append(x.Sets, api.DataSet{Name: "spare"}, api.DataSet{})[:len(x.Sets)]
		x.Publish = append(x.Publish, api.Publish{Set: "spare"}, api.Publish{})[:len(x.Publish)]
		x.Subs = append(x.Subs, api.Subscribe{Local: "spare"}, api.Subscribe{})[:len(x.Subs)]
	}
	return append(l, sample()[ofBus], api.Relay{Name: "spare"})[:len(l)]
}

// fullRelays returns all that the memory of relays contains, including the spare capacity of their lists.
func fullRelays(l []api.Relay) string {
	text := ""
	for _, x := range l[:cap(l)] {
		text += dump(x) + dump(x.Rules[:cap(x.Rules)]) + dump(x.Sets[:cap(x.Sets)]) + dump(x.Publish[:cap(x.Publish)]) + dump(x.Subs[:cap(x.Subs)])
		for _, set := range x.Sets {
			text += dump(set.Signals[:cap(set.Signals)])
		}
	}
	return text
}

// roomyItems returns a copy of statements, with something in the spare capacity of all lists.
func roomyItems(l []api.Item) []api.Item {
	l = slices.Clone(l)
	for i, item := range l {
		l[i].Words = append(slices.Clone(item.Words), quoted("spare"))[:len(item.Words)]
		l[i].Kids = roomyItems(item.Kids)
	}
	return append(l, statement("relay spare"))[:len(l)]
}

// fullItems returns all that the memory of statements contains, including the spare capacity of their lists.
func fullItems(l []api.Item) string {
	text := ""
	for _, item := range l[:cap(l)] {
		text += fmt.Sprint(item.Line, item.Words[:cap(item.Words)], item.Block, "{", fullItems(item.Kids), "}")
	}
	return text
}

// TestArguments looks at P2: calls change neither their arguments nor what lies behind them.
func TestArguments(t *testing.T) {
	r := rand.New(rand.NewSource(2))
	for range 200 {
		s := diagram()
		s.Buses = append(s.Buses, "spare")[:2]
		s.Bays = append(s.Bays, api.Bay{Name: "spare"})[:7]
		l := randomRelays(r, s)
		if r.Intn(2) == 0 {
			l = distort(r, s, l)
		}
		l = roomyRelays(l)
		other := roomyRelays(l)
		items := roomyItems(spoil(r, s, l))
		before, beforeOther, beforeItems := fullRelays(l), fullRelays(other), fullItems(items)
		settings.Check(s, l)
		settings.Encode(s, l)
		settings.Decode(s, items)
		for i := range l {
			settings.Same(l[i], other[i])
		}
		if fullRelays(l) != before || fullRelays(other) != beforeOther || fullItems(items) != beforeItems {
			t.Fatalf("P2: a call has changed its arguments: %s", before)
		}
		want := diagram()
		want.Buses, want.Bays = append(want.Buses, "spare"), append(want.Bays, api.Bay{Name: "spare"})
		s.Buses, s.Bays = s.Buses[:3], s.Bays[:8]
		if dump(s) != dump(want) {
			t.Fatalf("P2: a call has changed the diagram: %s", dump(s))
		}
	}
}

// strangeItems returns lists of statements that syntax.Check does not accept.
func strangeItems() [][]api.Item {
	head := statement("relay R bus").Words
	words := func(l ...api.Word) api.Item { return api.Item{Words: l} }
	cycle := []api.Item{{Words: head, Block: true}}
	cycle[0].Kids = cycle
	return [][]api.Item{
		{{}},
		{{Block: true}},
		{words(api.Word{})},
		{words(quoted("relay"))},
		{words(quoted("station"), quoted("S"))},
		{words(plain("relay"), plain(""))},
		{words(plain("relay"), plain("\xff\x00"), plain("bus"))},
		{words(plain(" relay "))},
		{words(slices.Repeat([]api.Word{plain("relay")}, 1000)...)},
		{{Words: head, Kids: []api.Item{statement("loop 0 0 0")}}},
		{block("relay R bus", api.Item{})},
		{block("relay R bus", api.Item{Block: true})},
		{block("relay R bus", words(api.Word{}))},
		{block("relay R bus", words(plain("zone")))},
		{block("relay R bus", words(quoted("zone"), plain("1")))},
		{block("relay R bus", words(quoted("set"), quoted("D")))},
		{block("relay R bus", words(plain("set"), plain("D"), plain("")))},
		{block("relay R bus", words(plain("rule"), plain("x"), quoted("\"\n\xff")))},
		{block("relay R bus", words(append([]api.Word{plain("set"), plain("D")}, slices.Repeat([]api.Word{plain("x")}, 1000)...)...))},
		{block("relay R bus", statement("zone N forward N N N N"), statement("rule NAME TEXT"), statement("set NAME .."))},
		{block("relay R bus", api.Item{Words: statement("loop 0 0 0").Words, Kids: []api.Item{{}}})},
		slices.Repeat([]api.Item{block("relay R bus")}, 1000),
		slices.Repeat([]api.Item{{}}, 1000),
		cycle,
	}
}

// TestAnyArguments looks at P1 with arguments for which nothing else is promised.
func TestAnyArguments(t *testing.T) {
	strange := []api.Station{{}, {Bays: make([]api.Bay, 20)}, {Bays: []api.Bay{{Kind: 1}, {Kind: 2}, {Kind: 3}, {Name: "\xff \n", Kind: 4}}}, {Name: "1", Buses: make([]string, 100), Lines: make([]api.Line, 100), Sources: make([]api.Source, 100), Bays: slices.Repeat(diagram().Bays, 9)}}
	r := rand.New(rand.NewSource(8))
	for _, s := range append(strange, diagram()) {
		for _, l := range strangeItems() {
			settings.Decode(s, l)
		}
		if station.Check(s) != api.OK {
			for range 100 {
				l := randomRelays(r, diagram())
				settings.Check(s, l)
				settings.Encode(s, l)
				settings.Decode(s, spoil(r, diagram(), l))
			}
		}
		for _, n := range []int{0, 1, -1, math.MinInt, math.MaxInt} {
			for kind := range 6 {
				x := api.Relay{Name: "R", Kind: kind, Bay: n}
				for _, all := range settingsOf() {
					for _, c := range all {
						setLeaf(c.at(&x), n)
					}
				}
				l := []api.Relay{x, x}
				if at, e := settings.Check(s, l); at != 0 || e == api.OK || len(settings.Encode(s, l)) > 0 || !settings.Same(x, cloneRelay(x)) {
					t.Errorf("P1: a relay of numbers %d is taken", n)
				}
			}
		}
	}
}

// TestLongLists looks at lists that are much longer than valid ones.
func TestLongLists(t *testing.T) {
	long := slices.Repeat(sample(), 1000)
	expectCheck(t, "many relays", long, 7, api.ErrDuplicate)
	expectText(t, "", long...)
	x := headOf(api.BusRelay)
	x.Rules, x.Sets, x.Publish, x.Subs = make([]api.Rule, 100000), make([]api.DataSet, 100000), make([]api.Publish, 100000), make([]api.Subscribe, 100000)
	if at, e := settings.Check(diagram(), []api.Relay{x}); at != 0 || e != api.ErrCount {
		t.Errorf("P7.1: Check of long lists = %d, %d", at, e)
	}
}
