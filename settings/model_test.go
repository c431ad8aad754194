package settings_test

import (
	"math/rand"
	"reflect"
	"regexp"
	"slices"
	"strconv"
	"strings"
	"testing"

	"substation/api"
	"substation/settings"
	"substation/syntax"
)

// faults are the errors of a relay that the tests compare with, in the order in which they are noted.
type faults []api.Errno

// unless notes an error if a rule is not kept.
func (f *faults) unless(kept bool, e api.Errno) {
	if !kept {
		*f = append(*f, e)
	}
}

// first returns the first error that was noted.
func (f faults) first() api.Errno { return append(f, api.OK)[0] }

var (
	validName = regexp.MustCompile(`\A[A-Za-z][A-Za-z0-9_]{0,11}\z`)
	validText = regexp.MustCompile(`\A[ !#-~]*\z`)
)

// relayFaults returns the errors of a relay after others, none of which has one.
func relayFaults(s api.Station, before []api.Relay, x api.Relay) faults {
	var f faults
	names := elements(s)
	bays := map[int]bool{}
	for _, b := range before {
		names = append(names, b.Name)
		bays[b.Bay] = true
	}
	f.unless(validName.MatchString(x.Name), api.ErrName)
	f.unless(!slices.Contains(names, x.Name), api.ErrDuplicate)
	f.unless(x.Kind == 1 || x.Kind == 2 || x.Kind == 3 || x.Kind == 4, api.ErrKind)
	if x.Kind == api.BusRelay {
		f.unless(x.Bay == -1, api.ErrUnknown)
	} else {
		// The kinds of the bays have the numbers of those of the relays.
		f.unless(x.Bay >= 0 && x.Bay < len(s.Bays) && s.Bays[min(max(x.Bay, 0), len(s.Bays)-1)].Kind == x.Kind, api.ErrUnknown)
	}
	f.unless(!bays[x.Bay], api.ErrConflict)
	unused := x
	for _, field := range strings.Fields("Name Kind Bay Rules Sets Publish Subs " + uses[x.Kind]) {
		reflect.ValueOf(&unused).Elem().FieldByName(field).SetZero()
	}
	f.unless(reflect.ValueOf(unused).IsZero(), api.ErrConflict)
	f.unless(numbersFit(x), api.ErrRange)
	// What a scheme needs of the zones: ahead, behind, or anything.
	for i, need := range map[int]string{api.Underreach: "++.", api.Overreach: ".+.", api.Blocking: ".+-"}[x.Scheme] {
		f.unless(need == '.' || x.Zones[i].On && x.Zones[i].Forward == (need == '+'), api.ErrMissing)
	}
	f.unless(len(x.Rules) <= 16 && len(x.Sets) <= 4 && len(x.Publish) <= 4 && len(x.Subs) <= 24, api.ErrCount)
	for _, set := range x.Sets {
		f.unless(len(set.Signals) >= 1 && len(set.Signals) <= 24, api.ErrCount)
	}
	listFaults(&f, x)
	return f
}

// numbersFit reports whether the numbers of a relay are in their ranges: each row has a number and its limits.
func numbersFit(x api.Relay) bool {
	rows := [][3]int{{x.Scheme, 0, 3}, {x.Shots, 0, 3}, {x.DiffMin, 0, 16383}}
	row := func(on bool, n, low, high int) {
		if !on {
			low, high = 0, 0
		}
		rows = append(rows, [3]int{n, low, high})
	}
	ok, any := true, false
	for _, z := range x.Zones {
		any = any || z.On
		ok = ok && (z.On || !z.Forward)
		row(z.On, z.X, 1, 4000)
		row(z.On, z.Right, 0, 4000)
		row(z.On, z.Left, 0, 4000)
		row(z.On, z.Delay, 0, 500)
	}
	row(any, x.Min, 1, 16383)
	row(any, x.KRe, -200, 200)
	row(any, x.KIm, -200, 200)
	row(x.Scheme == 3, x.Wait, 1, 50)
	row(x.Scheme != 0, x.Guard, 0, 50)
	for _, y := range []api.Element{x.Definite, x.Under, x.Over} {
		row(y.On, y.Pickup, 1, 16383)
		row(y.On, y.Delay, 0, 500)
	}
	row(x.Fail.On, x.Fail.Pickup, 1, 16383)
	row(x.Fail.On, x.Fail.Delay, 1, 500)
	row(x.Inverse.On, x.Inverse.Pickup, 1, 16383)
	row(x.Inverse.On, x.Inverse.Dial, 1, 1000)
	row(x.Shots != 0, x.Dead, 1, 100)
	row(x.Shots != 0, x.Reclaim, 1, 1000)
	row(x.DiffMin != 0, x.Den, 1, 100)
	row(x.DiffMin != 0, x.Num, 0, x.Den)
	row(x.DiffMin != 0, x.Harm, 0, 100)
	for _, r := range rows {
		ok = ok && r[0] >= r[1] && r[0] <= r[2]
	}
	return ok
}

// listFaults notes the errors of the elements of the lists of a relay.
func listFaults(f *faults, x api.Relay) {
	var before []string
	name := func(name string, others ...string) {
		for _, s := range append(others, name) {
			f.unless(validName.MatchString(s), api.ErrName)
		}
		f.unless(!slices.Contains(before, name), api.ErrDuplicate)
		before = append(before, name)
	}
	for _, y := range x.Rules {
		f.unless(!slices.Contains(reserved, y.Name), api.ErrName)
		name(y.Name)
		f.unless(len(y.Text) <= 120, api.ErrLength)
		f.unless(validText.MatchString(y.Text), api.ErrByte)
	}
	before = nil
	for _, y := range x.Sets {
		name(y.Name, slices.Clone(y.Signals)...)
	}
	before = nil
	for _, y := range x.Publish {
		name(y.Set)
		f.unless(y.First >= 1 && y.First <= 100 && y.Max >= y.First && y.Max <= 1000, api.ErrRange)
	}
	before = nil
	for _, y := range x.Subs {
		name(y.Local, y.Device, y.Set, y.Signal)
	}
}

// modelCheck returns what Check is to return.
func modelCheck(s api.Station, l []api.Relay) (int, api.Errno) {
	for i, x := range l {
		if e := relayFaults(s, l[:i], x).first(); e != api.OK {
			return i, e
		}
	}
	return 0, api.OK
}

// distort returns a copy of relays with some fields changed.
func distort(r *rand.Rand, s api.Station, l []api.Relay) []api.Relay {
	l = clone(l)
	all := settingsOf()
	var fields []string
	for field := range all {
		fields = append(fields, field)
	}
	slices.Sort(fields)
	for range r.Intn(4) {
		if len(l) == 0 {
			break
		}
		x := &l[r.Intn(len(l))]
		switch r.Intn(8) {
		case 0:
			x.Name = pick(r, "", "1", "x234567890123", pick(r, elements(s)...), pick(r, l...).Name)
		case 1:
			x.Kind = pick(r, x.Kind, r.Intn(6))
			x.Bay = pick(r, x.Bay, -2, -1, r.Intn(len(s.Bays)+1), pick(r, l...).Bay)
		case 2:
			z := pick(r, &x.Zones[0], &x.Zones[1], &x.Zones[2])
			z.Forward = z.On && !z.Forward
		case 3, 4:
			used := strings.Fields(uses[x.Kind])
			field := pick(r, fields...)
			if len(used) > 0 && r.Intn(4) > 0 {
				field = pick(r, used...)
			}
			c := pick(r, all[field]...)
			if v := c.at(x); v.CanInt() {
				v.SetInt(int64(pick(r, -201, -200, -1, 0, 0, 1, 1, 2, 3, 4, 50, 51, 100, 101, 200, 201, 500, 501, 1000, 1001, 4000, 4001, 16383, 16384)))
			} else {
				v.SetBool(!v.Bool())
			}
		default:
			distortLists(r, x)
		}
	}
	return l
}

// distortLists changes an element of the lists of a relay, or their length.
func distortLists(r *rand.Rand, x *api.Relay) {
	if len(x.Rules) == 0 || len(x.Sets) == 0 || len(x.Publish) == 0 || len(x.Subs) == 0 {
		more := sample()[ofBus]
		x.Rules, x.Sets, x.Publish, x.Subs = append(x.Rules, more.Rules...), append(x.Sets, more.Sets...), append(x.Publish, more.Publish...), append(x.Subs, more.Subs...)
	}
	rule, set, publish, sub := &x.Rules[r.Intn(len(x.Rules))], &x.Sets[r.Intn(len(x.Sets))], &x.Publish[r.Intn(len(x.Publish))], &x.Subs[r.Intn(len(x.Subs))]
	name := pick(r, "", "_", "x234567890123", "not", x.Rules[0].Name, x.Sets[0].Name, x.Publish[0].Set, x.Subs[0].Local)
	switch r.Intn(9) {
	case 0, 8:
		rule.Text = pick(r, strings.Repeat("x", 120), strings.Repeat("x", 121), strings.Repeat("\n", 121), "\"", "\x1f", "~", "\x7f", "\u00e9")
	case 1:
		rule.Name = name
	case 2:
		set.Name = name
	case 3:
		publish.Set = name
	case 4:
		publish.First, publish.Max = pick(r, 0, 1, 2, 100, 101), pick(r, 0, 1, 2, 1000, 1001)
	case 5:
		*pick(r, &sub.Local, &sub.Local, &sub.Device, &sub.Set, &sub.Signal) = name
	case 6:
		set.Signals = pick(r, nil, many("s", 24), many("s", 25), append(many("s", 2), name))
	default:
		x.Rules, x.Subs = slices.Repeat(x.Rules, 1+r.Intn(2)), slices.Repeat(x.Subs, 1+r.Intn(2))
	}
}

// TestCheckRandom compares Check with the model.
func TestCheckRandom(t *testing.T) {
	r := rand.New(rand.NewSource(3))
	found := map[api.Errno]int{}
	for range 6000 {
		s := diagram()
		l := distort(r, s, randomRelays(r, s))
		wantAt, want := modelCheck(s, l)
		found[want]++
		if at, e := settings.Check(s, l); at != wantAt || e != want {
			t.Fatalf("P7.1: Check of %s = %d, %d; want %d, %d", dump(l), at, e, wantAt, want)
		}
		if items := settings.Encode(s, l); len(items) > 0 != (want == api.OK && len(l) > 0) {
			t.Fatalf("P7.4: Encode of %s = %s", dump(l), dump(items))
		}
	}
	for _, e := range []api.Errno{api.OK, api.ErrName, api.ErrDuplicate, api.ErrKind, api.ErrUnknown, api.ErrConflict, api.ErrRange, api.ErrMissing, api.ErrCount, api.ErrLength, api.ErrByte} {
		if found[e] < 20 {
			t.Errorf("error %d occurs %d times only", e, found[e])
		}
	}
}

// form returns the regular expression of a form of statements: NAME stands for a plain word, TEXT for a quoted one, N for a number.
func form(s string) *regexp.Regexp {
	s = strings.ReplaceAll(s, "NAME", `([A-Za-z0-9_+./:-]+)`)
	s = strings.ReplaceAll(s, "TEXT", `"([^"]*)"`)
	s = strings.ReplaceAll(s, "N ", `(0|-?[1-9][0-9]{0,6}) `)
	return regexp.MustCompile(`\A` + s + `\z`)
}

var (
	bayForm     = form(`relay NAME (line|source|coupler) NAME {`)
	busForm     = form(`relay NAME bus {`)
	zoneForm    = form(`zone ([123]) (forward|reverse) N N N N ;`)
	loopForm    = form(`loop N N N ;`)
	schemeForm  = form(`scheme (underreach|overreach|blocking) N N ;`)
	elementForm = form(`(definite|fail|under|over) N N ;`)
	curveForm   = form(`inverse N N ;`)
	recloseForm = form(`reclose N N N ;`)
	diffForm    = form(`differential N N N N ;`)
	ruleForm    = form(`rule NAME TEXT ;`)
	setForm     = form(`set NAME ((?:NAME )*);`)
	publishForm = form(`publish NAME N N ;`)
	subForm     = form(`subscribe NAME NAME NAME NAME ;`)
)

// show returns the words of a statement and how it ends, as the forms have them.
func show(item api.Item) string {
	text := ""
	for _, w := range item.Words {
		if w.Quoted {
			text += `"` + w.Text + `" `
		} else {
			text += w.Text + " "
		}
	}
	if item.Block {
		return text + "{"
	}
	return text + ";"
}

// values returns the numbers of the words.
func values(words []string) []int {
	var l []int
	for _, w := range words {
		n, _ := strconv.Atoi(w)
		l = append(l, n)
	}
	return append(l, 0, 0, 0, 0)
}

// modelDecode returns what Decode is to return: it finds the words with regular expressions.
func modelDecode(s api.Station, l []api.Item) ([]api.Relay, int, api.Errno) {
	var relays []api.Relay
	for _, item := range l {
		if slices.Contains([]string{"station", "bus", "line", "source", "bay"}, item.Words[0].Text) {
			continue
		}
		var x api.Relay
		if w := bayForm.FindStringSubmatch(show(item)); w != nil {
			x = api.Relay{Name: w[1], Kind: slices.Index([]string{"", "line", "source", "coupler"}, w[2])}
			x.Bay = slices.IndexFunc(s.Bays, func(b api.Bay) bool { return b.Name == w[3] })
			if x.Bay < 0 {
				return nil, item.Line, api.ErrUnknown
			}
		} else if w := busForm.FindStringSubmatch(show(item)); w != nil {
			x = api.Relay{Name: w[1], Kind: api.BusRelay, Bay: -1}
		} else {
			return nil, item.Line, api.ErrSyntax
		}
		occurred := " "
		for _, kid := range item.Kids {
			what, ok := modelSetting(&x, show(kid))
			if !ok {
				return nil, kid.Line, api.ErrSyntax
			}
			if strings.Contains(occurred, " "+what+" ") {
				return nil, kid.Line, api.ErrDuplicate
			}
			if what != "" {
				occurred += what + " "
			}
		}
		if e := relayFaults(s, relays, x).first(); e != api.OK {
			return nil, item.Line, e
		}
		relays = append(relays, x)
	}
	return relays, 0, api.OK
}

// modelSetting reads a statement in a block, and returns what of it may occur only once, and whether it has one of the forms.
func modelSetting(x *api.Relay, text string) (string, bool) {
	first, _, _ := strings.Cut(text, " ")
	if w := zoneForm.FindStringSubmatch(text); w != nil {
		n := values(w[3:])
		x.Zones[w[1][0]-'1'] = api.Reach{On: true, Forward: w[2] == "forward", X: n[0], Right: n[1], Left: n[2], Delay: n[3]}
		return first + w[1], true
	} else if w := ruleForm.FindStringSubmatch(text); w != nil {
		x.Rules = append(x.Rules, api.Rule{Name: w[1], Text: w[2]})
		return "", true
	} else if w := setForm.FindStringSubmatch(text); w != nil {
		x.Sets = append(x.Sets, api.DataSet{Name: w[1], Signals: strings.Fields(w[2])})
		return "", true
	} else if w := publishForm.FindStringSubmatch(text); w != nil {
		x.Publish = append(x.Publish, api.Publish{Set: w[1], First: values(w)[2], Max: values(w)[3]})
		return "", true
	} else if w := subForm.FindStringSubmatch(text); w != nil {
		x.Subs = append(x.Subs, api.Subscribe{Local: w[1], Device: w[2], Set: w[3], Signal: w[4]})
		return "", true
	} else if w := elementForm.FindStringSubmatch(text); w != nil {
		*map[string]*api.Element{"definite": &x.Definite, "fail": &x.Fail, "under": &x.Under, "over": &x.Over}[w[1]] = on(values(w)[2], values(w)[3])
		return first, true
	} else if w := schemeForm.FindStringSubmatch(text); w != nil {
		x.Scheme, x.Wait, x.Guard = slices.Index([]string{"", "underreach", "overreach", "blocking"}, w[1]), values(w)[2], values(w)[3]
		return first, true
	}
	for _, c := range []struct {
		form *regexp.Regexp
		at   []*int
	}{
		{loopForm, []*int{&x.Min, &x.KRe, &x.KIm}},
		{curveForm, []*int{&x.Inverse.Pickup, &x.Inverse.Dial}},
		{recloseForm, []*int{&x.Shots, &x.Dead, &x.Reclaim}},
		{diffForm, []*int{&x.DiffMin, &x.Num, &x.Den, &x.Harm}},
	} {
		if w := c.form.FindStringSubmatch(text); w != nil {
			for i, at := range c.at {
				*at = values(w)[i+1]
			}
			x.Inverse.On = x.Inverse.On || c.form == curveForm
			return first, true
		}
	}
	return "", false
}

// spoil returns statements of relays that are changed at some places. They have no error of syntax but their number, and different lines.
func spoil(r *rand.Rand, s api.Station, l []api.Relay) []api.Item {
	items := settings.Encode(s, l)
	if len(items) == 0 {
		items = settings.Encode(s, sample())
	}
	for range r.Intn(4) {
		spoilList(r, &items, items)
	}
	line := 0
	var number func(l []api.Item)
	number = func(l []api.Item) {
		for i := range l {
			line++
			l[i].Line = line
			number(l[i].Kids)
		}
	}
	items = cloneItems(items)
	number(items)
	return items
}

// spoilList changes something in a list of statements, or in one of their blocks; all are the statements at depth 0.
func spoilList(r *rand.Rand, l *[]api.Item, all []api.Item) {
	if len(*l) == 0 {
		return
	}
	i := r.Intn(len(*l))
	item := &(*l)[i]
	if item.Block && r.Intn(6) > 0 {
		spoilList(r, &item.Kids, all)
		return
	}
	switch r.Intn(11) {
	case 0:
		*l = slices.Delete(slices.Clone(*l), i, i+1)
	case 1:
		*l = slices.Insert(slices.Clone(*l), r.Intn(len(*l)+1), cloneItems((*l)[i:i+1])...)
	case 2:
		k := r.Intn(len(*l))
		(*l)[i], (*l)[k] = (*l)[k], (*l)[i]
	case 3:
		more := pick(r, "definite 1 2", "inverse 5 1000", "fail 5 1", "fail 5 0", "loop 0 0 0", "loop 5 200 -200", "zone 1 forward 5 6 7 8", "zone 2 reverse 5 6 7 8", "zone 4 forward 1 1 1 1", "scheme overreach 0 5", "scheme blocking 1 5", "reclose 1 1 1", "under 5 5", "over 5 5", "differential 5 1 1 5", "set D", "set D x x", "publish D 1 1", "subscribe a b c d", "relay R bus", "bus X", "station 1")
		*l = slices.Insert(slices.Clone(*l), i, statement(more))
	case 4:
		item.Block = !item.Block
		if !item.Block {
			item.Kids = nil
		}
	default:
		spoilWords(r, item, all)
	}
}

// spoilWords changes a word of a statement.
func spoilWords(r *rand.Rand, item *api.Item, all []api.Item) {
	other := all[r.Intn(len(all))]
	w := pick(r, pick(r, other.Words...), plain(pick(r, "0", "1", "-1", "2", "3", "4", "50", "51", "100", "101", "200", "201", "500", "501", "1000", "1001", "4000", "4001", "16383", "16384", "01", "-0", "12345678", "x", "_", "1x", "x234567890123", "not", "Q1", "Q2", "Q3", "Q9", "R1", "forward", "reverse", "line", "source", "coupler", "bus", "underreach", "overreach", "blocking")))
	w.Quoted = r.Intn(8) == 0
	i := r.Intn(len(item.Words))
	switch {
	case item.Words[0].Text == "zone" && len(item.Words) > 2 && r.Intn(3) > 0:
		item.Words[2] = plain(pick(r, "forward", "reverse"))
	case r.Intn(6) == 0:
		item.Words = slices.Insert(slices.Clone(item.Words), i+1, w)
	case r.Intn(6) == 0 && i > 0:
		item.Words = slices.Delete(slices.Clone(item.Words), i, i+1)
	case r.Intn(6) == 0 && i > 0 && !strings.Contains(item.Words[i].Text, " ") && syntax.Plain(item.Words[i].Text):
		item.Words[i].Quoted = !item.Words[i].Quoted
	case i > 0:
		item.Words[i] = w
	default:
		item.Words[0] = plain(pick(r, "relay", "zone", "loop", "scheme", "definite", "inverse", "fail", "reclose", "under", "over", "differential", "rule", "set", "publish", "subscribe", "bay", "x"))
	}
}

// TestDecodeRandom compares Decode with the model.
func TestDecodeRandom(t *testing.T) {
	r := rand.New(rand.NewSource(4))
	found := map[api.Errno]int{}
	for range 8000 {
		s := diagram()
		l := spoil(r, s, randomRelays(r, s))
		if e := syntax.Check(l); e != api.OK && e != api.ErrCount {
			t.Fatalf("the test's statements have error %d: %s", e, dump(l))
		}
		want, wantLine, wantError := modelDecode(s, l)
		found[wantError]++
		relays, line, e := settings.Decode(s, l)
		if dump(relays) != dump(want) || line != wantLine || e != wantError {
			t.Fatalf("P7.3: Decode of %q = %s, %d, %d; want %s, %d, %d", syntax.Format(l), dump(relays), line, e, dump(want), wantLine, wantError)
		}
	}
	for _, e := range []api.Errno{api.OK, api.ErrSyntax, api.ErrName, api.ErrDuplicate, api.ErrUnknown, api.ErrConflict, api.ErrRange, api.ErrMissing, api.ErrCount} {
		if found[e] < 20 {
			t.Errorf("error %d occurs %d times only", e, found[e])
		}
	}
}
