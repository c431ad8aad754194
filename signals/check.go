package signals

import (
	"slices"

	"substation/api"
)

// check returns the first error of the signals of a relay.
func (d *directory) check(relay int) api.Errno {
	outputs := Outputs(d.relays[relay])
	if !distinct(slices.Concat(outputs, Inputs(d.relays[relay]))) {
		return api.ErrDuplicate
	}
	if e := d.checkSets(relay, firsts(outputs, itself)); e != api.OK {
		return e
	}
	if e := d.checkPublish(relay); e != api.OK {
		return e
	}
	return d.checkSubs(relay)
}

// distinct reports whether no two names are equal.
func distinct(l []string) bool { return len(firsts(l, itself)) == len(l) }

// checkSets returns the first error of the data sets of a relay with these outputs.
func (d *directory) checkSets(relay int, outputs map[string]int) api.Errno {
	for i, set := range d.relays[relay].Sets {
		first := d.signals(relay, i)
		for j, name := range set.Signals {
			if _, found := outputs[name]; !found {
				return api.ErrUnknown
			}
			if first[name] != j {
				return api.ErrDuplicate
			}
		}
	}
	return api.OK
}

// checkPublish returns the error of a publication of a relay that names none of its data sets.
func (d *directory) checkPublish(relay int) api.Errno {
	for _, p := range d.relays[relay].Publish {
		if _, found := d.device(relay).sets[p.Set]; !found {
			return api.ErrUnknown
		}
	}
	return api.OK
}

// checkSubs returns the first error of the subscriptions of a relay.
func (d *directory) checkSubs(relay int) api.Errno {
	for _, sub := range d.relays[relay].Subs {
		if _, e := d.find(relay, sub); e != api.OK {
			return e
		}
	}
	return api.OK
}
