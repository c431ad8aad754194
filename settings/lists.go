package settings

import (
	"strings"

	"substation/api"
	"substation/station"
)

// checkCounts returns the error of the lengths of the lists of a relay.
func checkCounts(r api.Relay) api.Errno {
	ok := len(r.Rules) <= api.MaxRules && len(r.Sets) <= api.MaxSets && len(r.Publish) <= api.MaxSets && len(r.Subs) <= api.MaxSubs
	for _, x := range r.Sets {
		ok = ok && within(len(x.Signals), 1, api.MaxSignals)
	}
	if !ok {
		return api.ErrCount
	}
	return api.OK
}

// checkRules returns the first error of the rules of a relay.
func checkRules(r api.Relay) api.Errno {
	before := map[string]bool{}
	for _, x := range r.Rules {
		switch {
		case !station.Name(x.Name) || reserved(x.Name):
			return api.ErrName
		case !enter(before, x.Name):
			return api.ErrDuplicate
		case len(x.Text) > api.MaxWord:
			return api.ErrLength
		case strings.ContainsFunc(x.Text, unquotable):
			return api.ErrByte
		}
	}
	return api.OK
}

// checkSets returns the first error of the data sets of a relay.
func checkSets(r api.Relay) api.Errno {
	before := map[string]bool{}
	for _, x := range r.Sets {
		switch {
		case !allNames(x.Name) || !allNames(x.Signals...):
			return api.ErrName
		case !enter(before, x.Name):
			return api.ErrDuplicate
		}
	}
	return api.OK
}

// checkPublish returns the first error of the publications of a relay.
func checkPublish(r api.Relay) api.Errno {
	before := map[string]bool{}
	for _, x := range r.Publish {
		switch {
		case !allNames(x.Set):
			return api.ErrName
		case !enter(before, x.Set):
			return api.ErrDuplicate
		case !within(x.First, 1, maxFirst) || !within(x.Max, x.First, maxLongest):
			return api.ErrRange
		}
	}
	return api.OK
}

// checkSubs returns the first error of the subscriptions of a relay.
func checkSubs(r api.Relay) api.Errno {
	before := map[string]bool{}
	for _, x := range r.Subs {
		switch {
		case !allNames(x.Local, x.Device, x.Set, x.Signal):
			return api.ErrName
		case !enter(before, x.Local):
			return api.ErrDuplicate
		}
	}
	return api.OK
}

// enter adds x to a set, and reports whether it was not there before.
func enter[T comparable](set map[T]bool, x T) bool {
	before := set[x]
	set[x] = true
	return !before
}

// allNames reports whether all elements of a list are names.
func allNames(l ...string) bool {
	for _, name := range l {
		if !station.Name(name) {
			return false
		}
	}
	return true
}

// reserved reports whether s is a word of logic equations, which cannot be the name of a rule.
func reserved(s string) bool {
	switch s {
	case "true", "false", "not", "and", "or", "xor", "min", "max", "abs", "if", "rise", "fall", "delay", "hold", "latch", "count":
		return true
	}
	return false
}

// unquotable reports whether a quoted word cannot contain c. No byte of a character beyond ASCII can be in one.
func unquotable(c rune) bool { return c < ' ' || c > '~' || c == '"' }
