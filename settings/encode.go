package settings

import (
	"strconv"
	"strings"

	"substation/api"
)

// relayStatement returns the statement of a relay of the diagram s.
func relayStatement(s api.Station, r api.Relay) api.Item {
	head := "relay " + r.Name + " " + kindWord(r.Kind)
	if r.Kind != api.BusRelay {
		head += " " + s.Bays[r.Bay].Name
	}
	item := statement(head)
	item.Block = true
	for _, words := range settingTexts(r) {
		item.Kids = append(item.Kids, statement(words))
	}
	for _, x := range r.Rules {
		rule := statement("rule " + x.Name)
		rule.Words = append(rule.Words, api.Word{Text: strings.Clone(x.Text), Quoted: true})
		item.Kids = append(item.Kids, rule)
	}
	for _, words := range signalTexts(r) {
		item.Kids = append(item.Kids, statement(words))
	}
	return item
}

// settingTexts returns the words of the statements of the elements and numbers of a relay.
func settingTexts(r api.Relay) []string {
	var l []string
	add := func(used bool, words string, n ...int) {
		if used {
			l = append(l, words+numbers(n...))
		}
	}
	for i, z := range r.Zones {
		direction := " reverse"
		if z.Forward {
			direction = " forward"
		}
		add(z.On, "zone"+numbers(i+1)+direction, z.X, z.Right, z.Left, z.Delay)
	}
	add(r.Min != 0, "loop", r.Min, r.KRe, r.KIm)
	add(r.Scheme != api.NoScheme, "scheme "+schemeWord(r.Scheme), r.Wait, r.Guard)
	add(r.Definite.On, "definite", r.Definite.Pickup, r.Definite.Delay)
	add(r.Inverse.On, "inverse", r.Inverse.Pickup, r.Inverse.Dial)
	add(r.Fail.On, "fail", r.Fail.Pickup, r.Fail.Delay)
	add(r.Shots != 0, "reclose", r.Shots, r.Dead, r.Reclaim)
	add(r.Under.On, "under", r.Under.Pickup, r.Under.Delay)
	add(r.Over.On, "over", r.Over.Pickup, r.Over.Delay)
	add(r.DiffMin != 0, "differential", r.DiffMin, r.Num, r.Den, r.Harm)
	return l
}

// signalTexts returns the words of the statements of the data sets, publications and subscriptions of a relay.
func signalTexts(r api.Relay) []string {
	var l []string
	for _, x := range r.Sets {
		l = append(l, "set "+x.Name+" "+strings.Join(x.Signals, " "))
	}
	for _, x := range r.Publish {
		l = append(l, "publish "+x.Set+numbers(x.First, x.Max))
	}
	for _, x := range r.Subs {
		l = append(l, "subscribe "+x.Local+" "+x.Device+" "+x.Set+" "+x.Signal)
	}
	return l
}

// numbers returns the words for numbers, each with a blank before it.
func numbers(l ...int) string {
	text := ""
	for _, n := range l {
		text += " " + strconv.Itoa(n)
	}
	return text
}

// statement returns a statement without a block, with the words of a text.
func statement(text string) api.Item {
	var item api.Item
	for _, w := range strings.Fields(text) {
		item.Words = append(item.Words, api.Word{Text: w})
	}
	return item
}
