package signals

import (
	"strconv"
	"strings"

	"substation/api"
)

// The fixed signals of the relays of bays.
const (
	lineSignals    = "trip close fail send transfer zone1 zone2 zone3 time started"
	currentSignals = "trip close fail time started under over"
)

// tripSignals returns the fixed signals of a bus relay: one for each bay that a station can have.
func tripSignals() []string {
	var trips []string
	for bay := range api.MaxBays {
		trips = append(trips, "trip"+strconv.Itoa(bay))
	}
	return trips
}

// names returns copies of the names of a list's elements.
func names[T any](list []T, name func(T) string) []string {
	var l []string
	for _, element := range list {
		l = append(l, strings.Clone(name(element)))
	}
	return l
}

// firsts returns, for each name, the index of the first element of a list that has it.
func firsts[T any](list []T, name func(T) string) map[string]int {
	first := make(map[string]int, len(list))
	for i, element := range list {
		if _, found := first[name(element)]; !found {
			first[name(element)] = i
		}
	}
	return first
}

// isIndex reports whether a number is the index of an element of a list.
func isIndex[T any](i int, list []T) bool { return 0 <= i && i < len(list) }

// relayName returns the name of a relay.
func relayName(r api.Relay) string { return r.Name }

// ruleName returns the name of a rule.
func ruleName(r api.Rule) string { return r.Name }

// setName returns the name of a data set.
func setName(s api.DataSet) string { return s.Name }

// publishedName returns the name of the data set that is published.
func publishedName(p api.Publish) string { return p.Set }

// localName returns the name that a subscription has in its own relay.
func localName(s api.Subscribe) string { return s.Local }

// itself returns a name that stands for itself.
func itself(name string) string { return name }
