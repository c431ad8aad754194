package settings

import (
	"slices"
	"strconv"
	"strings"

	"substation/api"
)

// form is a form of statements in the block of a relay: its words, and the function that puts the values of such a statement into the relay.
type form struct {
	words string
	set   func(r *api.Relay, v values)
}

// blockForms returns the forms of the statements in a block, by their first words.
func blockForms() map[string][]form {
	forms := map[string][]form{}
	add := func(words string, set func(r *api.Relay, v values)) {
		first, _, _ := strings.Cut(words, " ")
		forms[first] = append(forms[first], form{words, set})
	}
	for i := range api.MaxZones {
		zone := "zone " + strconv.Itoa(i+1)
		add(zone+" forward N N N N", func(r *api.Relay, v values) { r.Zones[i] = v.reach(true) })
		add(zone+" reverse N N N N", func(r *api.Relay, v values) { r.Zones[i] = v.reach(false) })
	}
	add("loop N N N", func(r *api.Relay, v values) { r.Min, r.KRe, r.KIm = v.n[0], v.n[1], v.n[2] })
	for _, scheme := range []int{api.Underreach, api.Overreach, api.Blocking} {
		add("scheme "+schemeWord(scheme)+" N N", func(r *api.Relay, v values) { r.Scheme, r.Wait, r.Guard = scheme, v.n[0], v.n[1] })
	}
	add("definite N N", func(r *api.Relay, v values) { r.Definite = v.element() })
	add("inverse N N", func(r *api.Relay, v values) { r.Inverse = api.Curve{On: true, Pickup: v.n[0], Dial: v.n[1]} })
	add("fail N N", func(r *api.Relay, v values) { r.Fail = v.element() })
	add("reclose N N N", func(r *api.Relay, v values) { r.Shots, r.Dead, r.Reclaim = v.n[0], v.n[1], v.n[2] })
	add("under N N", func(r *api.Relay, v values) { r.Under = v.element() })
	add("over N N", func(r *api.Relay, v values) { r.Over = v.element() })
	add("differential N N N N", func(r *api.Relay, v values) { r.DiffMin, r.Num, r.Den, r.Harm = v.n[0], v.n[1], v.n[2], v.n[3] })
	add("rule NAME TEXT", func(r *api.Relay, v values) {
		r.Rules = append(r.Rules, api.Rule{Name: v.names[0], Text: v.text})
	})
	add("set NAME ..", func(r *api.Relay, v values) {
		r.Sets = append(r.Sets, api.DataSet{Name: v.names[0], Signals: slices.Clone(v.names[1:])})
	})
	add("publish NAME N N", func(r *api.Relay, v values) {
		r.Publish = append(r.Publish, api.Publish{Set: v.names[0], First: v.n[0], Max: v.n[1]})
	})
	add("subscribe NAME NAME NAME NAME", func(r *api.Relay, v values) {
		r.Subs = append(r.Subs, api.Subscribe{Local: v.names[0], Device: v.names[1], Set: v.names[2], Signal: v.names[3]})
	})
	return forms
}

// reach returns the distance zone of a statement.
func (v values) reach(forward bool) api.Reach {
	return api.Reach{On: true, Forward: forward, X: v.n[0], Right: v.n[1], Left: v.n[2], Delay: v.n[3]}
}

// element returns the element of a statement.
func (v values) element() api.Element {
	return api.Element{On: true, Pickup: v.n[0], Delay: v.n[1]}
}

// kindWord returns the word for a kind of relays.
func kindWord(kind int) string {
	switch kind {
	case api.LineRelay:
		return "line"
	case api.SourceRelay:
		return "source"
	case api.CouplerRelay:
		return "coupler"
	default:
		return "bus"
	}
}

// schemeWord returns the word for a kind of teleprotection schemes.
func schemeWord(scheme int) string {
	switch scheme {
	case api.Underreach:
		return "underreach"
	case api.Overreach:
		return "overreach"
	default:
		return "blocking"
	}
}
