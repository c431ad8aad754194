package settings_test

import (
	"fmt"
	"reflect"
	"slices"
	"strings"
	"testing"

	"substation/api"
	"substation/settings"
	"substation/syntax"
)

// withoutLines returns statements with line 0.
func withoutLines(l []api.Item) []api.Item {
	l = slices.Clone(l)
	for i := range l {
		l[i].Line = 0
		l[i].Kids = withoutLines(l[i].Kids)
	}
	return l
}

// expectText fails if Encode, for the diagram, does not return the statements of a text.
func expectText(t *testing.T, text string, relays ...api.Relay) {
	t.Helper()
	want := withoutLines(parse(t, text))
	if l := settings.Encode(diagram(), relays); dump(l) != dump(want) {
		t.Errorf("P7.4: Encode of %s = %s, not %s", dump(relays), dump(l), dump(want))
	}
}

func TestEncode(t *testing.T) {
	expectText(t, sampleText, sample()...)
	expectText(t, "")
	if text := syntax.Format(settings.Encode(diagram(), sample())); text != sampleText {
		t.Errorf("P7.4: the text of the sample is %q", text)
	}
	l := sample()
	slices.Reverse(l)
	expectText(t, write(diagram(), l), l...)
	for i, head := range heads {
		expectText(t, head+" { }", headOf(i+1))
		x := headOf(i + 1)
		x.Rules, x.Sets, x.Publish, x.Subs = []api.Rule{}, []api.DataSet{}, []api.Publish{}, []api.Subscribe{}
		expectText(t, head+" { }", x)
	}
	for i, b := range diagram().Bays {
		words := []string{"", "line", "source", "coupler"}
		expectText(t, "relay R "+words[b.Kind]+" "+b.Name+" { }", api.Relay{Name: "R", Kind: b.Kind, Bay: i})
	}
}

// TestEncodeZones writes all kinds of zones, with and without schemes.
func TestEncodeZones(t *testing.T) {
	kinds := []api.Reach{{}, ahead(10, 5, 6, 1), behind(20, 0, 0, 0)}
	for n := range 27 {
		x := headOf(api.LineRelay)
		x.Zones = [3]api.Reach{kinds[n%3], kinds[n/3%3], kinds[n/9]}
		text := ""
		for i, z := range x.Zones {
			if z.On {
				text += fmt.Sprint("zone ", i+1, []string{" reverse 20 0 0 0;", " forward 10 5 6 1;"}[z.X/10%2])
				x.Min = 7
			}
		}
		if x.Min > 0 {
			x.KRe, x.KIm = n-13, 0
			text += fmt.Sprintf("loop 7 %d 0;", n-13)
		}
		expectText(t, heads[0]+" {"+text+"}", x)
		if n%3 == 1 && n/3%3 == 1 {
			x.Scheme, x.Guard = api.Underreach, n
			expectText(t, heads[0]+" {"+text+fmt.Sprintf("scheme underreach 0 %d; }", n), x)
			x.Scheme, x.Guard = api.Overreach, 0
			expectText(t, heads[0]+" {"+text+"scheme overreach 0 0; }", x)
		}
		if n/3%3 == 1 && n/9 == 2 {
			x.Scheme, x.Guard, x.Wait = api.Blocking, 0, n
			expectText(t, heads[0]+" {"+text+fmt.Sprintf("scheme blocking %d 0; }", n), x)
		}
	}
}

// TestEncodeSettings writes relays with one setting each.
func TestEncodeSettings(t *testing.T) {
	for _, c := range []struct {
		kinds []int
		text  string
		set   func(x *api.Relay)
	}{
		{[]int{1, 2, 3}, "definite 5 0;", func(x *api.Relay) { x.Definite = on(5, 0) }},
		{[]int{1, 2, 3}, "inverse 5 6;", func(x *api.Relay) { x.Inverse = curve(5, 6) }},
		{[]int{1, 2, 3}, "fail 5 6;", func(x *api.Relay) { x.Fail = on(5, 6) }},
		{[]int{1}, "reclose 1 2 3;", func(x *api.Relay) { x.Shots, x.Dead, x.Reclaim = 1, 2, 3 }},
		{[]int{2}, "under 5 0;", func(x *api.Relay) { x.Under = on(5, 0) }},
		{[]int{2}, "over 5 6;", func(x *api.Relay) { x.Over = on(5, 6) }},
		{[]int{2}, "under 7 8; over 5 6;", func(x *api.Relay) { x.Over, x.Under = on(5, 6), on(7, 8) }},
		{[]int{4}, "differential 1 0 1 0;", func(x *api.Relay) { x.DiffMin, x.Den = 1, 1 }},
		{[]int{1, 2, 3, 4}, "rule a \"\"; rule b \" x  y \";", func(x *api.Relay) { x.Rules = []api.Rule{{Name: "a"}, {Name: "b", Text: " x  y "}} }},
		{[]int{1, 2, 3, 4}, "rule a \"NAME\"; rule TEXT \"b\";", func(x *api.Relay) { x.Rules = []api.Rule{{Name: "a", Text: "NAME"}, {Name: "TEXT", Text: "b"}} }},
		{[]int{1, 2, 3, 4}, "set b x x; set a y;", func(x *api.Relay) {
			x.Sets = []api.DataSet{{Name: "b", Signals: []string{"x", "x"}}, {Name: "a", Signals: []string{"y"}}}
		}},
		{[]int{1, 2, 3, 4}, "publish b 1 1; publish a 100 1000;", func(x *api.Relay) {
			x.Publish = []api.Publish{{Set: "b", First: 1, Max: 1}, {Set: "a", First: 100, Max: 1000}}
		}},
		{[]int{1, 2, 3, 4}, "subscribe d c b a; subscribe a b c d;", func(x *api.Relay) {
			x.Subs = []api.Subscribe{{Local: "d", Device: "c", Set: "b", Signal: "a"}, {Local: "a", Device: "b", Set: "c", Signal: "d"}}
		}},
	} {
		for _, kind := range c.kinds {
			x := headOf(kind)
			c.set(&x)
			expectText(t, heads[kind-1]+" {"+c.text+"}", x)
		}
	}
	for _, n := range []int{1, 2, 24} {
		x := headOf(api.BusRelay)
		x.Sets = []api.DataSet{{Name: "D", Signals: many("s", n)}}
		expectText(t, "relay R bus { set D "+strings.Join(many("s", n), " ")+"; }", x)
	}
}

// TestEncodeNumbers writes every number of sample at its limits, and nothing if it is beyond them.
func TestEncodeNumbers(t *testing.T) {
	for _, c := range allNumbers() {
		for _, n := range []int{c.low - 1, c.low, c.high, c.high + 1} {
			l := sample()
			*c.at(&l[c.relay]) = n
			want := ""
			if c.low <= n && n <= c.high {
				want = write(diagram(), l)
			}
			expectText(t, want, l...)
		}
	}
}

// TestEncodeErrors writes relays with an error, which have no statements, wherever the error is.
func TestEncodeErrors(t *testing.T) {
	expectText(t, "", api.Relay{})
	for _, at := range withSettings {
		for _, c := range damages(at) {
			l := reverse()
			c.change(&l[at])
			expectText(t, "", l...)
		}
	}
}

// expectSame fails if Same of two relays, in either order, is not as given.
func expectSame(t *testing.T, what string, a, b api.Relay, want bool) {
	t.Helper()
	if settings.Same(a, b) != want || settings.Same(b, a) != want {
		t.Errorf("P7.4: %s: Same of %s and %s is not %v", what, dump(a), dump(b), want)
	}
}

// TestSameFields changes each field of relays, also so that they are no longer valid.
func TestSameFields(t *testing.T) {
	for i := range sample() {
		expectSame(t, "the sample", sample()[i], sample()[i], true)
		for k := range i {
			expectSame(t, "two of the sample", sample()[i], sample()[k], false)
		}
		for k := range leaves(reflect.ValueOf(&sample()[i]).Elem()) {
			x := sample()[i]
			at := leaves(reflect.ValueOf(&x).Elem())[k]
			switch at.Kind() {
			case reflect.String:
				at.SetString(at.String() + "1")
			case reflect.Int:
				at.SetInt(at.Int() + 1<<32)
			case reflect.Bool:
				at.SetBool(!at.Bool())
			}
			expectSame(t, fmt.Sprint("field ", k), x, sample()[i], false)
			expectSame(t, fmt.Sprint("field ", k, " in both"), x, cloneRelay(x), true)
		}
	}
	if n := len(leaves(reflect.ValueOf(&sample()[ofLine]).Elem())); n < 70 {
		t.Errorf("the sample has %d fields only", n)
	}
}

// TestSameLists changes the lengths and orders of lists.
func TestSameLists(t *testing.T) {
	for i, change := range []func(x *api.Relay){
		func(x *api.Relay) { x.Rules = x.Rules[:1] },
		func(x *api.Relay) { x.Rules = append(x.Rules, api.Rule{}) },
		func(x *api.Relay) { x.Rules = nil },
		func(x *api.Relay) { slices.Reverse(x.Rules) },
		func(x *api.Relay) { x.Sets = x.Sets[:1] },
		func(x *api.Relay) { x.Sets = append(x.Sets, api.DataSet{}) },
		func(x *api.Relay) { x.Sets = nil },
		func(x *api.Relay) { slices.Reverse(x.Sets) },
		func(x *api.Relay) { x.Sets[0].Signals = x.Sets[0].Signals[:1] },
		func(x *api.Relay) { x.Sets[0].Signals = append(x.Sets[0].Signals, "") },
		func(x *api.Relay) { x.Sets[1].Signals = nil },
		func(x *api.Relay) { slices.Reverse(x.Sets[0].Signals) },
		func(x *api.Relay) { x.Publish = x.Publish[:1] },
		func(x *api.Relay) { x.Publish = append(x.Publish, api.Publish{}) },
		func(x *api.Relay) { x.Publish = nil },
		func(x *api.Relay) { slices.Reverse(x.Publish) },
		func(x *api.Relay) { x.Subs = x.Subs[:1] },
		func(x *api.Relay) { x.Subs = append(x.Subs, api.Subscribe{}) },
		func(x *api.Relay) { x.Subs = nil },
		func(x *api.Relay) { slices.Reverse(x.Subs) },
		func(x *api.Relay) { x.Zones[0], x.Zones[1] = x.Zones[1], x.Zones[0] },
		func(x *api.Relay) { x.Definite, x.Fail = x.Fail, x.Definite },
		func(x *api.Relay) { x.Under, x.Over = on(1, 1), on(1, 1) },
	} {
		x := sample()[ofLine]
		change(&x)
		expectSame(t, fmt.Sprint("change ", i), x, sample()[ofLine], false)
		expectSame(t, fmt.Sprint("change ", i, " in both"), x, cloneRelay(x), true)
	}
}

// TestSameEmpty looks at lists that are nil or empty.
func TestSameEmpty(t *testing.T) {
	empty := api.Relay{Rules: []api.Rule{}, Sets: []api.DataSet{}, Publish: []api.Publish{}, Subs: []api.Subscribe{}}
	expectSame(t, "empty lists", empty, api.Relay{}, true)
	expectSame(t, "no lists", api.Relay{}, api.Relay{}, true)
	expectSame(t, "a name", api.Relay{Name: "R"}, empty, false)
	for i := range 16 {
		a, b := sample()[bareLine], sample()[bareLine]
		if i&1 > 0 {
			a.Rules, b.Rules = []api.Rule{}, nil
		}
		if i&2 > 0 {
			a.Sets, b.Sets = nil, []api.DataSet{}
		}
		if i&4 > 0 {
			a.Publish, b.Publish = []api.Publish{}, nil
		}
		if i&8 > 0 {
			a.Subs, b.Subs = nil, []api.Subscribe{}
		}
		expectSame(t, "some empty lists", a, b, true)
	}
	a, b := sample()[ofLine], sample()[ofLine]
	a.Sets[0].Signals, b.Sets[0].Signals = nil, []string{}
	expectSame(t, "empty signals", a, b, true)
	a = api.Relay{Rules: make([]api.Rule, 1, 9), Sets: make([]api.DataSet, 1, 7)}
	b = api.Relay{Rules: make([]api.Rule, 1), Sets: make([]api.DataSet, 1, 2)}
	expectSame(t, "other capacities", a, b, true)
	long := api.Relay{Name: strings.Repeat("x", 1000), Rules: make([]api.Rule, 1000), Sets: []api.DataSet{{Signals: make([]string, 1000)}}, Publish: make([]api.Publish, 1000), Subs: make([]api.Subscribe, 1000)}
	expectSame(t, "long lists", long, cloneRelay(long), true)
}
