package settings_test

import (
	"fmt"
	"math"
	"reflect"
	"slices"
	"strings"
	"testing"

	"substation/api"
	"substation/settings"
)

// badNames are not names, goodNames are; none of these is a name of the diagram or of sample.
var (
	badNames  = []string{"", "x234567890123", "1", "1x", "_", "_x", "x-", "x.y", "x y", "x\n", "\u00e9", "x\x00"}
	goodNames = []string{"v", "V", "x23456789_12", "v_", "S", "relay", "trip"}
)

func TestCheckValid(t *testing.T) {
	mustBeValid(t, diagram())
	mustBeValid(t, full())
	expectCheck(t, "no relays", nil, 0, api.OK)
	expectCheck(t, "an empty list", []api.Relay{}, 0, api.OK)
	expectCheck(t, "the sample", sample(), 0, api.OK)
	l := sample()
	slices.Reverse(l)
	expectCheck(t, "the sample in reverse order", l, 0, api.OK)
	for i := range l {
		expectCheck(t, "one relay", l[i:i+1], 0, api.OK)
	}
	empty := api.Relay{Name: "R", Kind: api.LineRelay, Bay: 6, Rules: []api.Rule{}, Sets: []api.DataSet{}, Publish: []api.Publish{}, Subs: []api.Subscribe{}}
	expectCheck(t, "empty lists", []api.Relay{empty}, 0, api.OK)
}

// TestCheckAll looks at a list with a relay for each bay of the largest diagram, and one for its buses.
func TestCheckAll(t *testing.T) {
	s := full()
	var l []api.Relay
	for i, b := range s.Bays {
		kind := map[int]int{api.LineBay: api.LineRelay, api.SourceBay: api.SourceRelay, api.Coupler: api.CouplerRelay}[b.Kind]
		l = append(l, api.Relay{Name: fmt.Sprint("R", i), Kind: kind, Bay: i})
	}
	l = append(l, api.Relay{Name: "RB", Kind: api.BusRelay, Bay: -1})
	if at, e := settings.Check(s, l); at != 0 || e != api.OK {
		t.Errorf("P7.1: Check of a relay for each bay = %d, %d", at, e)
	}
	for i := range l {
		again := append(clone(l), l[i])
		again[len(l)].Name = "R"
		if at, e := settings.Check(s, again); at != len(l) || e != api.ErrConflict {
			t.Errorf("P7.1: Check of a second relay for bay %d = %d, %d", l[i].Bay, at, e)
		}
	}
}

func TestCheckNames(t *testing.T) {
	for i := range sample() {
		for _, name := range goodNames {
			expectChange(t, "name", i, func(x *api.Relay) { x.Name = name }, api.OK)
		}
		for _, name := range badNames {
			expectChange(t, "name", i, func(x *api.Relay) { x.Name = name }, api.ErrName)
		}
		// The reserved words of rules are names of relays.
		for _, name := range reserved {
			expectChange(t, "name", i, func(x *api.Relay) { x.Name = name }, api.OK)
		}
		for _, name := range elements(diagram()) {
			expectChange(t, "name of an element", i, func(x *api.Relay) { x.Name = name }, api.ErrDuplicate)
			expectChange(t, "name that differs in case", i, func(x *api.Relay) { x.Name = strings.ToLower(name) }, api.OK)
		}
		for k, before := range sample() {
			if k < i {
				expectChange(t, fmt.Sprint("name of relay ", k), i, func(x *api.Relay) { x.Name = before.Name }, api.ErrDuplicate)
			}
		}
	}
	// The names of what belongs to a relay do not matter.
	for _, name := range []string{"x", "D", "a", "trip"} {
		expectChange(t, "name", ofLine, func(x *api.Relay) { x.Name = name }, api.OK)
	}
}

// TestCheckElements gives a relay the name of each element of the largest diagram.
func TestCheckElements(t *testing.T) {
	s := full()
	s.Buses = append(s.Buses, "B3", "B4")
	s.Sources = append(s.Sources, s.Sources[0], s.Sources[0])
	s.Sources[2].Name, s.Sources[3].Name = "G3", "G4"
	mustBeValid(t, s)
	for _, name := range elements(s) {
		if at, e := settings.Check(s, []api.Relay{{Name: name, Kind: api.BusRelay, Bay: -1}}); at != 0 || e != api.ErrDuplicate {
			t.Errorf("P7.1: Check of a relay with the name %s of an element = %d, %d", name, at, e)
		}
	}
}

func TestCheckKinds(t *testing.T) {
	for i, x := range sample() {
		for _, kind := range []int{0, 5, -1, math.MinInt, math.MaxInt, x.Kind + 1<<32} {
			expectChange(t, "kind", i, func(x *api.Relay) { x.Kind = kind }, api.ErrKind)
		}
	}
}

func TestCheckBays(t *testing.T) {
	bays := diagram().Bays
	fits := map[int]int{api.LineRelay: api.LineBay, api.SourceRelay: api.SourceBay, api.CouplerRelay: api.Coupler}
	for kind := api.LineRelay; kind <= api.BusRelay; kind++ {
		for _, bay := range []int{math.MinInt, -7, -2, -1, 0, 1, 2, 3, 4, 5, 6, 7, 8, 16, math.MaxInt, 1 << 32, -1 + 1<<32} {
			want := api.ErrUnknown
			if kind == api.BusRelay && bay == -1 || bay >= 0 && bay < len(bays) && bays[bay].Kind == fits[kind] {
				want = api.OK
			}
			expectCheck(t, "bay", []api.Relay{{Name: "R", Kind: kind, Bay: bay}}, 0, want)
		}
	}
	for _, c := range []struct{ relay, bay int }{{bareLine, 0}, {bareSource, 1}, {bareCoupler, 2}} {
		expectChange(t, "bay of another relay", c.relay, func(x *api.Relay) { x.Bay = c.bay }, api.ErrConflict)
	}
	expectChange(t, "another bay", bareLine, func(x *api.Relay) { x.Bay = 6 }, api.OK)
	expectChange(t, "second bus relay", bareLine, func(x *api.Relay) { x.Kind, x.Bay = api.BusRelay, -1 }, api.ErrConflict)
	// Without bays there can be a bus relay only.
	s := diagram()
	s.Bays = nil
	for kind := api.LineRelay; kind <= api.BusRelay; kind++ {
		for bay := -1; bay <= 0; bay++ {
			want := api.ErrUnknown
			if kind == api.BusRelay && bay == -1 {
				want = api.OK
			}
			if at, e := settings.Check(s, []api.Relay{{Name: "R", Kind: kind, Bay: bay}}); at != 0 || e != want {
				t.Errorf("P7.1: Check of a relay of kind %d with bay %d and no bays = %d, %d", kind, bay, at, e)
			}
		}
	}
}

// setting is a number or a bool of a relay.
type setting struct {
	what string
	at   func(x *api.Relay) reflect.Value
}

// settingsOf returns all numbers and bools of relays from field Zones to field Harm, by the names of their fields.
func settingsOf() map[string][]setting {
	l := map[string][]setting{}
	kind := reflect.TypeFor[api.Relay]()
	for i := range kind.NumField() {
		f := kind.Field(i)
		if f.Name == "Name" || f.Name == "Kind" || f.Name == "Bay" || f.Type.Kind() == reflect.Slice {
			continue
		}
		field := func(x *api.Relay) reflect.Value { return reflect.ValueOf(x).Elem().Field(i) }
		for k := range leaves(field(&api.Relay{})) {
			l[f.Name] = append(l[f.Name], setting{fmt.Sprint(f.Name, " ", k), func(x *api.Relay) reflect.Value { return leaves(field(x))[k] }})
		}
	}
	return l
}

// leaves returns all fields of a value that are neither structs nor lists.
func leaves(v reflect.Value) []reflect.Value {
	var l []reflect.Value
	switch v.Kind() {
	case reflect.Struct:
		for i := range v.NumField() {
			l = append(l, leaves(v.Field(i))...)
		}
	case reflect.Slice, reflect.Array:
		for i := range v.Len() {
			l = append(l, leaves(v.Index(i))...)
		}
	default:
		l = append(l, v)
	}
	return l
}

// setLeaf gives a number the value n, and makes a bool true.
func setLeaf(v reflect.Value, n int) {
	if v.Kind() == reflect.Bool {
		v.SetBool(true)
	} else {
		v.SetInt(int64(n))
	}
}

// uses says which settings the relays of a kind use.
var uses = map[int]string{
	api.LineRelay:    "Zones Min KRe KIm Scheme Wait Guard Definite Inverse Fail Shots Dead Reclaim",
	api.SourceRelay:  "Definite Inverse Fail Under Over",
	api.CouplerRelay: "Definite Inverse Fail",
	api.BusRelay:     "DiffMin Num Den Harm",
}

// TestCheckUse gives relays of each kind what their kind does not use.
func TestCheckUse(t *testing.T) {
	all := settingsOf()
	if len(all) != 19 || len(all["Zones"]) != 18 {
		t.Fatalf("the test knows %d settings and %d of zones", len(all), len(all["Zones"]))
	}
	for _, relay := range []int{ofLine, ofSource, ofCoupler, ofBus, bareLine, bareSource, bareCoupler} {
		used := strings.Fields(uses[sample()[relay].Kind])
		for field, l := range all {
			if slices.Contains(used, field) {
				continue
			}
			for _, c := range l {
				for _, n := range []int{1, -1, math.MaxInt, math.MinInt} {
					expectChange(t, c.what, relay, func(x *api.Relay) { setLeaf(c.at(x), n) }, api.ErrConflict)
				}
			}
		}
	}
	// Valid settings of one kind are no settings of another one.
	for _, from := range []int{ofLine, ofSource, ofCoupler, ofBus} {
		for to := api.LineRelay; to <= api.BusRelay; to++ {
			x := sample()[from]
			want := api.ErrConflict
			if to == x.Kind || from == ofCoupler && to != api.BusRelay {
				want = api.OK
			}
			x.Kind, x.Bay = to, []int{0, 0, 1, 2, -1}[to]
			expectCheck(t, "settings of another kind", []api.Relay{x}, 0, want)
			x.Rules, x.Sets, x.Publish, x.Subs = nil, nil, nil, nil
			expectCheck(t, "settings of another kind", []api.Relay{x}, 0, want)
		}
	}
}

// TestCheckUsed gives relays of each kind one number that their kind uses: it is no conflict, but not enough.
func TestCheckUsed(t *testing.T) {
	for kind, used := range uses {
		for _, field := range strings.Fields(used) {
			for _, c := range settingsOf()[field] {
				x := headOf(kind)
				setLeaf(c.at(&x), 1)
				want := api.ErrRange
				if field == "Scheme" {
					want = api.ErrMissing
				}
				expectCheck(t, c.what, []api.Relay{x}, 0, want)
			}
		}
	}
}

// number is a number of a relay of sample, with its range.
type number struct {
	what      string
	relay     int
	at        func(x *api.Relay) *int
	low, high int
}

// allNumbers returns all numbers of settings of sample that are not zero in it, and those of Publish.
func allNumbers() []number {
	var l []number
	add := func(relay int, what string, low, high int, at func(x *api.Relay) *int) {
		l = append(l, number{fmt.Sprint("relay ", relay, ": ", what), relay, at, low, high})
	}
	for i := range api.MaxZones {
		zone := fmt.Sprint("zone ", i+1, " ")
		add(ofLine, zone+"X", 1, api.MaxReach, func(x *api.Relay) *int { return &x.Zones[i].X })
		add(ofLine, zone+"Right", 0, api.MaxReach, func(x *api.Relay) *int { return &x.Zones[i].Right })
		add(ofLine, zone+"Left", 0, api.MaxReach, func(x *api.Relay) *int { return &x.Zones[i].Left })
		add(ofLine, zone+"Delay", 0, api.MaxDelay, func(x *api.Relay) *int { return &x.Zones[i].Delay })
	}
	add(ofLine, "Min", 1, api.MaxSample, func(x *api.Relay) *int { return &x.Min })
	add(ofLine, "KRe", -maxFactor, maxFactor, func(x *api.Relay) *int { return &x.KRe })
	add(ofLine, "KIm", -maxFactor, maxFactor, func(x *api.Relay) *int { return &x.KIm })
	add(ofLine, "Wait", 1, maxWait, func(x *api.Relay) *int { return &x.Wait })
	add(ofLine, "Guard", 0, maxGuard, func(x *api.Relay) *int { return &x.Guard })
	add(ofLine, "Shots", 1, api.MaxShots, func(x *api.Relay) *int { return &x.Shots })
	add(ofLine, "Dead", 1, api.MaxDead, func(x *api.Relay) *int { return &x.Dead })
	add(ofLine, "Reclaim", 1, api.MaxReclaim, func(x *api.Relay) *int { return &x.Reclaim })
	for _, relay := range []int{ofLine, ofSource, ofCoupler} {
		add(relay, "Definite pickup", 1, api.MaxSample, func(x *api.Relay) *int { return &x.Definite.Pickup })
		add(relay, "Definite delay", 0, api.MaxDelay, func(x *api.Relay) *int { return &x.Definite.Delay })
		add(relay, "Inverse pickup", 1, api.MaxSample, func(x *api.Relay) *int { return &x.Inverse.Pickup })
		add(relay, "Inverse dial", 1, maxDial, func(x *api.Relay) *int { return &x.Inverse.Dial })
		add(relay, "Fail pickup", 1, api.MaxSample, func(x *api.Relay) *int { return &x.Fail.Pickup })
		add(relay, "Fail delay", 1, api.MaxDelay, func(x *api.Relay) *int { return &x.Fail.Delay })
	}
	add(ofSource, "Under pickup", 1, api.MaxSample, func(x *api.Relay) *int { return &x.Under.Pickup })
	add(ofSource, "Under delay", 0, api.MaxDelay, func(x *api.Relay) *int { return &x.Under.Delay })
	add(ofSource, "Over pickup", 1, api.MaxSample, func(x *api.Relay) *int { return &x.Over.Pickup })
	add(ofSource, "Over delay", 0, api.MaxDelay, func(x *api.Relay) *int { return &x.Over.Delay })
	add(ofBus, "DiffMin", 1, api.MaxSample, func(x *api.Relay) *int { return &x.DiffMin })
	add(ofBus, "Num", 0, 2, func(x *api.Relay) *int { return &x.Num })
	add(ofBus, "Den", 1, maxDen, func(x *api.Relay) *int { return &x.Den })
	add(ofBus, "Harm", 0, maxHarm, func(x *api.Relay) *int { return &x.Harm })
	add(ofLine, "First", 1, 64, func(x *api.Relay) *int { return &x.Publish[0].First })
	add(ofLine, "Max", 2, maxMax, func(x *api.Relay) *int { return &x.Publish[0].Max })
	add(ofBus, "First", 1, maxFirst, func(x *api.Relay) *int { return &x.Publish[0].First })
	add(ofBus, "Max", 1, maxMax, func(x *api.Relay) *int { return &x.Publish[0].Max })
	return l
}

func TestCheckNumbers(t *testing.T) {
	for _, c := range allNumbers() {
		for _, n := range []int{c.low, c.low + 1, (c.low + c.high) / 2, c.high - 1, c.high} {
			expectChange(t, fmt.Sprint(c.what, " ", n), c.relay, func(x *api.Relay) { *c.at(x) = n }, api.OK)
		}
		for _, n := range []int{c.low - 1, c.high + 1, -c.high - 1, math.MinInt, math.MaxInt, c.low + 1<<32} {
			// This includes Min, Shots and DiffMin 0, as what belongs to them is not 0.
			expectChange(t, fmt.Sprint(c.what, " ", n), c.relay, func(x *api.Relay) { *c.at(x) = n }, api.ErrRange)
		}
	}
}

// TestCheckOff gives elements that are not On a value.
func TestCheckOff(t *testing.T) {
	for _, c := range []struct {
		relay int
		what  string
		at    func(x *api.Relay) any
	}{
		{ofLine, "zone 1", func(x *api.Relay) any { return &x.Zones[0] }},
		{ofLine, "zone 2", func(x *api.Relay) any { return &x.Zones[1] }},
		{ofLine, "zone 3", func(x *api.Relay) any { return &x.Zones[2] }},
		{ofLine, "Definite", func(x *api.Relay) any { return &x.Definite }},
		{ofLine, "Inverse", func(x *api.Relay) any { return &x.Inverse }},
		{ofLine, "Fail", func(x *api.Relay) any { return &x.Fail }},
		{ofSource, "Definite", func(x *api.Relay) any { return &x.Definite }},
		{ofSource, "Inverse", func(x *api.Relay) any { return &x.Inverse }},
		{ofSource, "Fail", func(x *api.Relay) any { return &x.Fail }},
		{ofSource, "Under", func(x *api.Relay) any { return &x.Under }},
		{ofSource, "Over", func(x *api.Relay) any { return &x.Over }},
		{ofCoupler, "Definite", func(x *api.Relay) any { return &x.Definite }},
		{ofCoupler, "Inverse", func(x *api.Relay) any { return &x.Inverse }},
		{ofCoupler, "Fail", func(x *api.Relay) any { return &x.Fail }},
	} {
		element := func(x *api.Relay) reflect.Value { return reflect.ValueOf(c.at(x)).Elem() }
		off := func(x *api.Relay) {
			x.Scheme, x.Wait, x.Guard = 0, 0, 0
			element(x).SetZero()
		}
		expectChange(t, c.what+" not on", c.relay, off, api.OK)
		expectChange(t, c.what+" with its values, but not on", c.relay, func(x *api.Relay) {
			off(x)
			element(x).Set(element(&sample()[c.relay]))
			element(x).FieldByName("On").SetBool(false)
		}, api.ErrRange)
		for i := 1; i < element(&api.Relay{}).NumField(); i++ {
			for _, n := range []int{1, -1, 2, math.MinInt, math.MaxInt} {
				expectChange(t, fmt.Sprint(c.what, " not on, but field ", i), c.relay, func(x *api.Relay) {
					off(x)
					setLeaf(element(x).Field(i), n)
				}, api.ErrRange)
			}
		}
	}
}

// TestCheckLoop looks at Min, KRe and KIm with and without zones.
func TestCheckLoop(t *testing.T) {
	for on := range 8 {
		for _, c := range []struct{ least, re, im int }{{0, 0, 0}, {1, 0, 0}, {0, 1, 0}, {0, 0, 1}, {0, -1, 0}, {0, 0, -1}, {1, -200, 200}, {1, 200, -200}, {1, -201, 0}, {1, 201, 0}, {1, 0, -201}, {1, 0, 201}, {-1, 0, 0}, {16383, 0, 0}, {16384, 0, 0}} {
			want := api.ErrRange
			possible := c.least > 0 && c.least <= 16383 && max(c.re, -c.re, c.im, -c.im) <= 200
			if on == 0 {
				possible = c.least == 0 && c.re == 0 && c.im == 0
			}
			if possible {
				want = api.OK
			}
			expectChange(t, fmt.Sprint("zones ", on, " and loop ", c), bareLine, func(x *api.Relay) {
				for i := range x.Zones {
					if on>>i&1 > 0 {
						x.Zones[i] = api.Reach{On: true, Forward: i == 1, X: 5}
					}
				}
				x.Min, x.KRe, x.KIm = c.least, c.re, c.im
			}, want)
		}
	}
}

// TestCheckTimes looks at Wait and Guard for each scheme.
func TestCheckTimes(t *testing.T) {
	for _, scheme := range []int{-1, 0, 1, 2, 3, 4, math.MinInt, math.MaxInt, 1 << 32} {
		for _, wait := range []int{-1, 0, 1, 2, 49, 50, 51, math.MinInt, math.MaxInt} {
			for _, guard := range []int{-1, 0, 1, 2, 49, 50, 51, math.MinInt, math.MaxInt} {
				possible := guard >= 0 && guard <= 50
				switch scheme {
				case api.NoScheme:
					possible = wait == 0 && guard == 0
				case api.Underreach, api.Overreach:
					possible = possible && wait == 0
				case api.Blocking:
					possible = possible && wait >= 1 && wait <= 50
				default:
					possible = false
				}
				want := api.ErrRange
				if possible {
					want = api.OK
				}
				expectChange(t, fmt.Sprint("scheme ", scheme, " ", wait, " ", guard), ofLine, func(x *api.Relay) { x.Scheme, x.Wait, x.Guard = scheme, wait, guard }, want)
			}
		}
	}
}

// TestCheckSchemes looks at all kinds of zones for each scheme.
func TestCheckSchemes(t *testing.T) {
	kinds := []api.Reach{{}, ahead(10, 5, 5, 1), behind(10, 5, 5, 1)}
	for n := range 27 {
		first, second, third := n%3, n/3%3, n/9
		for scheme, ok := range map[int]bool{
			api.NoScheme:   true,
			api.Underreach: first == 1 && second == 1,
			api.Overreach:  second == 1,
			api.Blocking:   second == 1 && third == 2,
		} {
			want := api.ErrMissing
			if ok {
				want = api.OK
			}
			expectChange(t, fmt.Sprint("scheme ", scheme, ", zones ", first, second, third), bareLine, func(x *api.Relay) {
				x.Zones = [3]api.Reach{kinds[first], kinds[second], kinds[third]}
				if n > 0 {
					x.Min = 1
				}
				x.Scheme = scheme
				if scheme == api.Blocking {
					x.Wait = 1
				}
			}, want)
		}
	}
}

func TestCheckReclosing(t *testing.T) {
	for _, c := range []struct {
		shots, dead, reclaim int
		ok                   bool
	}{
		{0, 0, 0, true}, {0, 1, 0, false}, {0, 0, 1, false}, {0, 1, 1, false}, {0, -1, 0, false}, {0, 0, -1, false}, {0, 100, 1000, false},
		{1, 1, 1, true}, {2, 1, 1, true}, {3, 1, 1, true}, {4, 1, 1, false}, {-1, 1, 1, false}, {-1, 0, 0, false},
		{1, 0, 1, false}, {1, 1, 0, false}, {1, 0, 0, false}, {3, 100, 1000, true}, {3, 101, 1000, false}, {3, 100, 1001, false}, {3, 1000, 100, false},
	} {
		want := api.ErrRange
		if c.ok {
			want = api.OK
		}
		expectChange(t, fmt.Sprint("reclosing ", c), bareLine, func(x *api.Relay) { x.Shots, x.Dead, x.Reclaim = c.shots, c.dead, c.reclaim }, want)
	}
}

func TestCheckDifferential(t *testing.T) {
	for _, c := range []struct {
		least, num, den, harm int
		ok                    bool
	}{
		{0, 0, 0, 0, true}, {0, 1, 0, 0, false}, {0, 0, 1, 0, false}, {0, 0, 0, 1, false}, {0, 1, 2, 20, false}, {0, 0, -1, 0, false}, {0, 0, 0, -1, false}, {0, -1, 0, 0, false},
		{1, 0, 1, 0, true}, {1, 1, 1, 0, true}, {1, 2, 1, 0, false}, {1, 0, 0, 0, false}, {1, 0, 0, 1, false}, {-1, 0, 1, 0, false}, {-1, 0, 0, 0, false},
		{16383, 100, 100, 100, true}, {16384, 100, 100, 100, false}, {16383, 100, 100, 101, false}, {16383, 100, 101, 100, false}, {16383, 101, 101, 0, false}, {16383, 101, 100, 0, false},
		{5, 50, 50, 0, true}, {5, 51, 50, 0, false}, {5, -1, 50, 0, false}, {5, 0, 50, -1, false}, {5, -1, -1, 0, false}, {5, -2, -1, 0, false},
	} {
		want := api.ErrRange
		if c.ok {
			want = api.OK
		}
		expectChange(t, fmt.Sprint("differential ", c), ofBus, func(x *api.Relay) { x.DiffMin, x.Num, x.Den, x.Harm = c.least, c.num, c.den, c.harm }, want)
	}
}

// many returns n names that begin with a text.
func many(text string, n int) []string {
	var l []string
	for i := range n {
		l = append(l, fmt.Sprint(text, i))
	}
	return l
}

func TestCheckCounts(t *testing.T) {
	for i := range sample() {
		for _, c := range []struct {
			what  string
			limit int
			set   func(x *api.Relay, names []string)
		}{
			{"rules", 16, func(x *api.Relay, names []string) {
				x.Rules = nil
				for _, name := range names {
					x.Rules = append(x.Rules, api.Rule{Name: name})
				}
			}},
			{"sets", 4, func(x *api.Relay, names []string) {
				x.Sets = nil
				for _, name := range names {
					x.Sets = append(x.Sets, api.DataSet{Name: name, Signals: []string{"trip"}})
				}
			}},
			{"publications", 4, func(x *api.Relay, names []string) {
				x.Publish = nil
				for _, name := range names {
					x.Publish = append(x.Publish, api.Publish{Set: name, First: 1, Max: 1})
				}
			}},
			{"subscriptions", 24, func(x *api.Relay, names []string) {
				x.Subs = nil
				for _, name := range names {
					x.Subs = append(x.Subs, api.Subscribe{Local: name, Device: "R", Set: "D", Signal: "trip"})
				}
			}},
		} {
			for _, n := range []int{0, 1, c.limit - 1, c.limit, c.limit + 1, 1000} {
				want := api.OK
				if n > c.limit {
					want = api.ErrCount
				}
				expectChange(t, fmt.Sprint(n, " ", c.what), i, func(x *api.Relay) { c.set(x, many("n", n)) }, want)
			}
		}
		for at := range 4 {
			for _, n := range []int{0, 1, 2, 23, 24, 25, 1000} {
				want := api.OK
				if n == 0 || n > 24 {
					want = api.ErrCount
				}
				expectChange(t, fmt.Sprint(n, " signals of set ", at), i, func(x *api.Relay) {
					x.Sets = nil
					for _, name := range many("D", 4) {
						x.Sets = append(x.Sets, api.DataSet{Name: name, Signals: []string{"trip"}})
					}
					x.Sets[at].Signals = many("x", n)
				}, want)
			}
		}
	}
}

func TestCheckRuleNames(t *testing.T) {
	rules := func(names ...string) func(x *api.Relay) {
		return func(x *api.Relay) {
			x.Rules = nil
			for _, name := range names {
				x.Rules = append(x.Rules, api.Rule{Name: name, Text: "true"})
			}
		}
	}
	for i := range sample() {
		for _, name := range append(badNames, reserved...) {
			expectChange(t, "rule", i, rules(name), api.ErrName)
			expectChange(t, "rule", i, rules("p", "q", name), api.ErrName)
		}
		for _, name := range append([]string{"True", "FALSE", "nots", "iff", "i", "counts", "minimum", "dela", "Latch", "implies", "nand", "eq"}, goodNames...) {
			expectChange(t, "rule", i, rules(name), api.OK)
			expectChange(t, "rule", i, rules("p", "q", name), api.OK)
			expectChange(t, "rule", i, rules(name, "q", name), api.ErrDuplicate)
			expectChange(t, "rule", i, rules("p", name, name), api.ErrDuplicate)
		}
		// A rule may have any other name of the configuration.
		for _, name := range append([]string{"trip", "R1", "D", "a", "S"}, elements(diagram())...) {
			expectChange(t, "rule", i, rules(name), api.OK)
		}
	}
}

func TestCheckRuleTexts(t *testing.T) {
	text := func(text string) func(x *api.Relay) {
		return func(x *api.Relay) { x.Rules = []api.Rule{{Name: "p", Text: "true"}, {Name: "q", Text: text}} }
	}
	for _, i := range []int{ofLine, ofSource, ofCoupler, ofBus} {
		for _, n := range []int{0, 1, 2, 119, 120, 121, 122, 10000} {
			want := api.OK
			if n > 120 {
				want = api.ErrLength
			}
			expectChange(t, fmt.Sprint("text of ", n), i, text(strings.Repeat("x", n)), want)
		}
		for c := range 256 {
			want := api.OK
			if c < 32 || c > 126 || c == '"' {
				want = api.ErrByte
			}
			one := string([]byte{byte(c)})
			for _, s := range []string{one, one + "a", "a" + one, "a" + one + "b", strings.Repeat("x", 119) + one} {
				expectChange(t, fmt.Sprint("text with byte ", c), i, text(s), want)
			}
			expectChange(t, fmt.Sprint("text of 121 with byte ", c), i, text(strings.Repeat("x", 120)+one), api.ErrLength)
		}
		for _, s := range []string{"\u00e9", "\u2028", "\U0001f600", "\x7f", "\xc3", "\xef\xbf\xbd", "\ufffd"} {
			expectChange(t, "text beyond ASCII", i, text(s), api.ErrByte)
		}
		// 61 characters of 122 bytes.
		expectChange(t, "text of wide characters", i, text(strings.Repeat("\u00e9", 61)), api.ErrLength)
	}
}

func TestCheckSets(t *testing.T) {
	sets := func(l ...api.DataSet) func(x *api.Relay) { return func(x *api.Relay) { x.Sets = l } }
	set := func(name string, signals ...string) api.DataSet {
		return api.DataSet{Name: name, Signals: signals}
	}
	for _, i := range []int{ofLine, ofSource, ofCoupler, ofBus} {
		for _, name := range badNames {
			expectChange(t, "set", i, sets(set(name, "trip")), api.ErrName)
			expectChange(t, "set", i, sets(set("p", "trip"), set(name, "trip")), api.ErrName)
			for at := range 24 {
				signals := many("x", 24)
				signals[at] = name
				expectChange(t, "signal", i, sets(set("p", signals...)), api.ErrName)
				expectChange(t, "signal", i, sets(set("p", "trip"), set("q", signals[:at+1]...)), api.ErrName)
			}
		}
		for _, name := range append(slices.Clone(goodNames), reserved...) {
			expectChange(t, "set", i, sets(set(name, name)), api.OK)
			expectChange(t, "set", i, sets(set("p", name), set(name, "trip", name)), api.OK)
			expectChange(t, "signal twice", i, sets(set("p", name, name), set("q", name)), api.OK)
			expectChange(t, "set twice", i, sets(set(name, "x"), set("p", "x"), set(name, "y")), api.ErrDuplicate)
			expectChange(t, "set twice", i, sets(set("p", "x"), set(name, "x"), set(name, "x")), api.ErrDuplicate)
		}
		expectChange(t, "names of a rule and of a subscription", i, sets(set("x", "x"), set("a", "a")), api.OK)
	}
}

func TestCheckPublications(t *testing.T) {
	publish := func(l ...api.Publish) func(x *api.Relay) { return func(x *api.Relay) { x.Publish = l } }
	one := func(set string) api.Publish { return api.Publish{Set: set, First: 1, Max: 1} }
	for _, i := range []int{ofLine, ofSource, ofCoupler, ofBus} {
		for _, name := range badNames {
			expectChange(t, "publication", i, publish(one(name)), api.ErrName)
			expectChange(t, "publication", i, publish(one("p"), one(name)), api.ErrName)
		}
		// Whether there is such a set does not matter.
		for _, name := range append(slices.Clone(goodNames), reserved...) {
			expectChange(t, "publication", i, publish(one(name)), api.OK)
			expectChange(t, "publication twice", i, publish(one(name), one("p"), one(name)), api.ErrDuplicate)
			expectChange(t, "publication twice", i, publish(one("p"), one(name), one(name)), api.ErrDuplicate)
		}
		for _, first := range []int{math.MinInt, -1, 0, 1, 2, 50, 99, 100, 101, 999, 1000, 1001, math.MaxInt} {
			for _, longest := range []int{math.MinInt, -1, 0, 1, 2, 49, 50, 51, 99, 100, 101, 999, 1000, 1001, math.MaxInt} {
				want := api.ErrRange
				if first >= 1 && first <= 100 && longest >= first && longest <= 1000 {
					want = api.OK
				}
				expectChange(t, fmt.Sprint("intervals ", first, " ", longest), i, publish(one("p"), api.Publish{Set: "q", First: first, Max: longest}), want)
			}
		}
	}
}

func TestCheckSubscriptions(t *testing.T) {
	subs := func(l ...api.Subscribe) func(x *api.Relay) { return func(x *api.Relay) { x.Subs = l } }
	one := func(local string) api.Subscribe {
		return api.Subscribe{Local: local, Device: "R1", Set: "D", Signal: "trip"}
	}
	for _, i := range []int{ofLine, ofSource, ofCoupler, ofBus} {
		for _, name := range badNames {
			for _, bad := range []api.Subscribe{{Local: name, Device: "d", Set: "s", Signal: "i"}, {Local: "l", Device: name, Set: "s", Signal: "i"}, {Local: "l", Device: "d", Set: name, Signal: "i"}, {Local: "l", Device: "d", Set: "s", Signal: name}} {
				expectChange(t, "subscription", i, subs(bad), api.ErrName)
				expectChange(t, "subscription", i, subs(one("p"), bad), api.ErrName)
			}
		}
		// Whether there is such a device, set or signal does not matter.
		for _, name := range append(slices.Clone(goodNames), reserved...) {
			expectChange(t, "subscription", i, subs(api.Subscribe{Local: name, Device: name, Set: name, Signal: name}), api.OK)
			expectChange(t, "subscription twice", i, subs(one(name), one("p"), one(name)), api.ErrDuplicate)
			expectChange(t, "subscription twice", i, subs(one("p"), one(name), api.Subscribe{Local: name, Device: "d", Set: "s", Signal: "i"}), api.ErrDuplicate)
			expectChange(t, "subscriptions of one signal", i, subs(one(name), one("p"), one("q")), api.OK)
		}
	}
}
