package signals

import "substation/api"

// directory finds relays, data sets and signals by their names. It reads a relay or a data set when it is first asked for it, since a single Find needs only one of each.
type directory struct {
	relays  []api.Relay
	first   map[string]int // the relay of each name
	devices []device       // of each relay
}

// device is what a directory has read of a relay; its maps are nil until then.
type device struct {
	sets      map[string]int   // the data set of each name
	published map[string]int   // the element of Publish that names each data set
	signals   []map[string]int // of each data set: the signal of each name, nil until it is read
}

// newDirectory returns the directory of relays.
func newDirectory(relays []api.Relay) *directory {
	return &directory{relays: relays, first: firsts(relays, relayName), devices: make([]device, len(relays))}
}

// device returns what the directory has read of a relay.
func (d *directory) device(relay int) *device {
	v := &d.devices[relay]
	if v.sets == nil {
		r := d.relays[relay]
		*v = device{sets: firsts(r.Sets, setName), published: firsts(r.Publish, publishedName), signals: make([]map[string]int, len(r.Sets))}
	}
	return v
}

// signals returns the signal of each name in a data set.
func (d *directory) signals(relay, set int) map[string]int {
	v := d.device(relay)
	if v.signals[set] == nil {
		v.signals[set] = firsts(d.relays[relay].Sets[set].Signals, itself)
	}
	return v.signals[set]
}

// find returns the place of the signal that a subscription of a relay names.
func (d *directory) find(subscriber int, s api.Subscribe) (Place, api.Errno) {
	relay, found := d.first[s.Device]
	if !found {
		return Place{}, api.ErrUnknown
	}
	if relay == subscriber {
		return Place{}, api.ErrConflict
	}
	set, found := d.device(relay).sets[s.Set]
	if !found {
		return Place{}, api.ErrUnknown
	}
	if _, published := d.device(relay).published[s.Set]; !published {
		return Place{}, api.ErrMissing
	}
	item, found := d.signals(relay, set)[s.Signal]
	if !found {
		return Place{}, api.ErrUnknown
	}
	return Place{Relay: relay, Set: set, Item: item}, api.OK
}
