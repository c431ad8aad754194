package settings

import (
	"substation/api"
	"substation/station"
)

// Ranges of settings for which package api has no limits.
const (
	maxFactor  = 200  // largest magnitude of KRe and KIm
	maxWait    = 50   // longest coordination time in steps
	maxGuard   = 50   // longest guard time in steps
	maxDial    = 1000 // largest dial of an inverse-time element
	maxDen     = 100  // largest denominator of a restraint
	maxHarm    = 100  // largest setting of the harmonic restraint
	maxFirst   = 100  // longest first interval of retransmission in steps
	maxLongest = 1000 // longest interval of retransmission in steps
)

// checker checks relays one after another: it has the bays of the diagram, the names of its elements and of the relays so far, and the bays of the relays so far.
type checker struct {
	bays  []api.Bay
	names map[string]bool
	taken map[int]bool
}

// newChecker returns a checker that has seen no relay.
func newChecker(s api.Station) checker {
	c := checker{bays: s.Bays, names: map[string]bool{}, taken: map[int]bool{}}
	for _, name := range s.Buses {
		c.names[name] = true
	}
	for _, x := range s.Lines {
		c.names[x.Name] = true
	}
	for _, x := range s.Sources {
		c.names[x.Name] = true
	}
	for _, b := range s.Bays {
		c.names[b.Name] = true
	}
	return c
}

// add adds a relay, or returns its first error. After an error the checker is of no more use.
func (c checker) add(r api.Relay) api.Errno {
	for _, check := range []func(r api.Relay) api.Errno{
		c.checkName, c.checkBay, checkUse, checkRanges, checkScheme, checkCounts, checkRules, checkSets, checkPublish, checkSubs,
	} {
		if e := check(r); e != api.OK {
			return e
		}
	}
	return api.OK
}

// checkName returns the error of the name of a relay, and enters it.
func (c checker) checkName(r api.Relay) api.Errno {
	switch {
	case !station.Name(r.Name):
		return api.ErrName
	case !enter(c.names, r.Name):
		return api.ErrDuplicate
	}
	return api.OK
}

// checkBay returns the error of the kind and the bay of a relay, and enters the bay.
func (c checker) checkBay(r api.Relay) api.Errno {
	var fits bool
	switch r.Kind {
	case api.LineRelay:
		fits = c.isBay(r.Bay, api.LineBay)
	case api.SourceRelay:
		fits = c.isBay(r.Bay, api.SourceBay)
	case api.CouplerRelay:
		fits = c.isBay(r.Bay, api.Coupler)
	case api.BusRelay:
		fits = r.Bay == -1
	default:
		return api.ErrKind
	}
	switch {
	case !fits:
		return api.ErrUnknown
	case !enter(c.taken, r.Bay):
		return api.ErrConflict
	}
	return api.OK
}

// isBay reports whether i is the index of a bay of a kind.
func (c checker) isBay(i, kind int) bool {
	return within(i, 0, len(c.bays)-1) && c.bays[i].Kind == kind
}

// checkUse returns the error of settings that the kind of a relay does not use.
func checkUse(r api.Relay) api.Errno {
	ofLine := r.Zones != [api.MaxZones]api.Reach{} || r.Min != 0 || r.KRe != 0 || r.KIm != 0 || r.Scheme != 0 || r.Wait != 0 || r.Guard != 0 || r.Shots != 0 || r.Dead != 0 || r.Reclaim != 0
	ofSource := r.Under != api.Element{} || r.Over != api.Element{}
	ofBus := r.DiffMin != 0 || r.Num != 0 || r.Den != 0 || r.Harm != 0
	ofBay := r.Definite != api.Element{} || r.Inverse != api.Curve{} || r.Fail != api.Element{}
	if ofLine && r.Kind != api.LineRelay || ofSource && r.Kind != api.SourceRelay || ofBus && r.Kind != api.BusRelay || ofBay && r.Kind == api.BusRelay {
		return api.ErrConflict
	}
	return api.OK
}

// checkRanges returns the error of the numbers of a relay.
func checkRanges(r api.Relay) api.Errno {
	current := possible(r.Definite, 0) && possibleCurve(r.Inverse) && possible(r.Fail, 1)
	voltage := possible(r.Under, 0) && possible(r.Over, 0)
	if !possibleDistance(r) || !possibleTimes(r) || !current || !possibleReclosing(r) || !voltage || !possibleDifferential(r) {
		return api.ErrRange
	}
	return api.OK
}

// possibleDistance reports whether the numbers of the distance protection are in their ranges.
func possibleDistance(r api.Relay) bool {
	on := false
	for _, z := range r.Zones {
		if !possibleZone(z) {
			return false
		}
		on = on || z.On
	}
	if !on {
		return r.Min == 0 && r.KRe == 0 && r.KIm == 0
	}
	return within(r.Min, 1, api.MaxSample) && within(r.KRe, -maxFactor, maxFactor) && within(r.KIm, -maxFactor, maxFactor)
}

// possibleZone reports whether the numbers of a distance zone are in their ranges.
func possibleZone(z api.Reach) bool {
	if !z.On {
		return z == api.Reach{}
	}
	return within(z.X, 1, api.MaxReach) && within(z.Right, 0, api.MaxReach) && within(z.Left, 0, api.MaxReach) && within(z.Delay, 0, api.MaxDelay)
}

// possibleTimes reports whether the kind of the teleprotection scheme and its times are in their ranges.
func possibleTimes(r api.Relay) bool {
	switch r.Scheme {
	case api.NoScheme:
		return r.Wait == 0 && r.Guard == 0
	case api.Underreach, api.Overreach:
		return r.Wait == 0 && within(r.Guard, 0, maxGuard)
	case api.Blocking:
		return within(r.Wait, 1, maxWait) && within(r.Guard, 0, maxGuard)
	default:
		return false
	}
}

// possible reports whether the numbers of an element are in their ranges, where its delay is at least shortest.
func possible(x api.Element, shortest int) bool {
	if !x.On {
		return x == api.Element{}
	}
	return within(x.Pickup, 1, api.MaxSample) && within(x.Delay, shortest, api.MaxDelay)
}

// possibleCurve reports whether the numbers of an inverse-time element are in their ranges.
func possibleCurve(x api.Curve) bool {
	if !x.On {
		return x == api.Curve{}
	}
	return within(x.Pickup, 1, api.MaxSample) && within(x.Dial, 1, maxDial)
}

// possibleReclosing reports whether the numbers of the auto-recloser are in their ranges.
func possibleReclosing(r api.Relay) bool {
	if r.Shots == 0 {
		return r.Dead == 0 && r.Reclaim == 0
	}
	return within(r.Shots, 1, api.MaxShots) && within(r.Dead, 1, api.MaxDead) && within(r.Reclaim, 1, api.MaxReclaim)
}

// possibleDifferential reports whether the numbers of the bus differential protection are in their ranges.
func possibleDifferential(r api.Relay) bool {
	if r.DiffMin == 0 {
		return r.Num == 0 && r.Den == 0 && r.Harm == 0
	}
	return within(r.DiffMin, 1, api.MaxSample) && within(r.Den, 1, maxDen) && within(r.Num, 0, r.Den) && within(r.Harm, 0, maxHarm)
}

// checkScheme returns the error of zones that the teleprotection scheme of a relay needs.
func checkScheme(r api.Relay) api.Errno {
	forward := func(z api.Reach) bool { return z.On && z.Forward }
	ok := true
	switch r.Scheme {
	case api.Underreach:
		ok = forward(r.Zones[0]) && forward(r.Zones[1])
	case api.Overreach:
		ok = forward(r.Zones[1])
	case api.Blocking:
		ok = forward(r.Zones[1]) && r.Zones[2].On && !r.Zones[2].Forward
	}
	if !ok {
		return api.ErrMissing
	}
	return api.OK
}

// within reports whether n is from low to high.
func within(n, low, high int) bool { return low <= n && n <= high }
