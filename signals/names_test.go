package signals_test

import (
	"slices"
	"strings"
	"testing"

	"substation/api"
	"substation/signals"
)

// The signals of the chapter, and the numbers of their kinds.
var fixed = map[int]string{
	1: "trip close fail send transfer zone1 zone2 zone3 time started",
	2: "trip close fail time started under over",
	3: "trip close fail time started under over",
	4: "trip0 trip1 trip2 trip3 trip4 trip5 trip6 trip7 trip8 trip9 trip10 trip11 trip12 trip13 trip14 trip15",
}

// expectNames fails if a list is not that of the words of a text.
func expectNames(t *testing.T, what string, l []string, want string) {
	t.Helper()
	if !slices.Equal(l, strings.Fields(want)) {
		t.Errorf("P8.1: %s = %q, want %q", what, l, want)
	}
}

func TestFixed(t *testing.T) {
	expectNames(t, "Fixed of a line relay", signals.Fixed(api.LineRelay), fixed[1])
	expectNames(t, "Fixed of a source relay", signals.Fixed(api.SourceRelay), fixed[2])
	expectNames(t, "Fixed of a coupler relay", signals.Fixed(api.CouplerRelay), fixed[3])
	expectNames(t, "Fixed of a bus relay", signals.Fixed(api.BusRelay), fixed[4])
	for kind := -300; kind <= 300; kind++ {
		expectNames(t, "Fixed of "+dump(kind), signals.Fixed(kind), fixed[kind])
	}
	for _, kind := range far {
		expectNames(t, "Fixed of "+dump(kind), signals.Fixed(kind), "")
	}
}

func TestOutputs(t *testing.T) {
	expectNames(t, "Outputs of the example", signals.Outputs(api.Relay{Kind: api.CouplerRelay, Rules: rules("x")}), "trip close fail time started under over x")
	for kind := -1; kind <= 6; kind++ {
		for _, names := range []string{"", "x", "z x y", "x trip x", "trip0 zone1 x1 x10 x9"} {
			r := api.Relay{Name: "R", Kind: kind, Rules: rules(names), Subs: []api.Subscribe{sub("a RL D s")}, Sets: []api.DataSet{set("D s")}}
			expectNames(t, "Outputs of kind "+dump(kind)+" with rules "+names, signals.Outputs(r), fixed[kind]+" "+names)
		}
		expectNames(t, "Outputs without rules", signals.Outputs(api.Relay{Kind: kind}), fixed[kind])
		expectNames(t, "Outputs with an empty list", signals.Outputs(api.Relay{Kind: kind, Rules: []api.Rule{}}), fixed[kind])
	}
	strange := signals.Outputs(api.Relay{Kind: 7, Rules: []api.Rule{{}, {Name: "a b"}, {Name: "\xff", Text: "x"}}})
	if !slices.Equal(strange, []string{"", "a b", "\xff"}) {
		t.Errorf("P8.1: Outputs of rules without names = %q", strange)
	}
}

func TestInputs(t *testing.T) {
	for kind := -1; kind <= 6; kind++ {
		r := api.Relay{Name: "R", Kind: kind, Rules: rules("x y")}
		expectNames(t, "Inputs without subscriptions", signals.Inputs(r), "")
		r.Subs = []api.Subscribe{}
		expectNames(t, "Inputs with an empty list", signals.Inputs(r), "")
		r.Subs = []api.Subscribe{sub("a RL D s")}
		expectNames(t, "Inputs with one subscription", signals.Inputs(r), "a")
		r.Subs = []api.Subscribe{sub("c RL D s"), sub("a RL D s"), sub("trip RL E t"), sub("x R D s"), sub("a RL D s")}
		expectNames(t, "Inputs with several subscriptions", signals.Inputs(r), "c a trip x a")
	}
	strange := signals.Inputs(api.Relay{Subs: []api.Subscribe{{Device: "R"}, {Local: "a b"}}})
	if !slices.Equal(strange, []string{"", "a b"}) {
		t.Errorf("P8.1: Inputs of subscriptions without names = %q", strange)
	}
}
