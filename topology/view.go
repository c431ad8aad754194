package topology

import (
	"iter"
	"maps"

	"substation/api"
	"substation/station"
)

// view is a diagram with a position of its switches, and for each bus the lowest bus of its group.
type view struct {
	api.Station
	api.Position
	groups []int
}

// look returns the view of a diagram in a position. If one of them has an error, the view is empty, so that whatever is asked of it has the zero value.
func look(s api.Station, p api.Position) view {
	if station.Check(s) != api.OK || Check(s, p) != api.OK {
		return view{}
	}
	v := view{Station: s, Position: p}
	for bus := range s.Buses {
		v.groups = append(v.groups, bus)
	}
	for bay, b := range s.Bays {
		if b.Kind != api.Coupler {
			v.join(bay)
		}
	}
	return v
}

// join makes one group of the groups that the closed links of a bay lead to.
func (v view) join(bay int) {
	first := v.first(bay)
	for bus := range v.selected(bay) {
		low, high := min(first.Of, v.groups[bus]), max(first.Of, v.groups[bus])
		for i, lowest := range v.groups {
			if lowest == high {
				v.groups[i] = low
			}
		}
	}
}

// selected yields the buses that the closed links of a bay lead to.
func (v view) selected(bay int) iter.Seq[int] {
	return func(yield func(bus int) bool) {
		for i, k := range v.Bays[bay].Links {
			if v.Links[bay][i] == api.Closed && !yield(k.Bus) {
				return
			}
		}
	}
}

// first returns the group that the first closed link of a bay leads to, or no node if all links are open.
func (v view) first(bay int) Node {
	for bus := range v.selected(bay) {
		return v.group(bus)
	}
	return Node{}
}

// group returns the group of a bus.
func (v view) group(bus int) Node { return Node{GroupNode, v.groups[bus]} }

// node returns the node that is a zone, or no node if there is no such zone.
func (v view) node(z api.Zone) Node {
	switch {
	case z.Kind == api.BusZone && has(v.Buses, z.Of):
		return v.group(z.Of)
	case z.Kind == api.LineZone && has(v.Lines, z.Of):
		return Node{LineNode, z.Of}
	default:
		return Node{}
	}
}

// sides returns the two nodes that a bay lies between.
func (v view) sides(bay int) [2]Node {
	if !has(v.Bays, bay) {
		return [2]Node{}
	}
	switch b := v.Bays[bay]; b.Kind {
	case api.LineBay:
		return [2]Node{v.first(bay), {LineNode, b.Of}}
	case api.SourceBay:
		return [2]Node{v.first(bay), {SourceNode, b.Of}}
	default:
		return [2]Node{v.group(b.Links[0].Bus), v.group(b.Links[1].Bus)}
	}
}

// across returns the node on the other side of a bay of n, or no node if the bay does not lie between n and another node.
func (v view) across(n Node, bay int) Node {
	x := v.sides(bay)
	switch {
	case n.Kind == None || x[0] == x[1]:
		return Node{}
	case x[0] == n:
		return x[1]
	case x[1] == n:
		return x[0]
	default:
		return Node{}
	}
}

// around yields the bays between n and another node, and these nodes.
func (v view) around(n Node) iter.Seq2[int, Node] {
	return func(yield func(bay int, other Node) bool) {
		for bay := range v.Bays {
			other := v.across(n, bay)
			if other.Kind != None && !yield(bay, other) {
				return
			}
		}
	}
}

// conducts reports whether a bay is an edge of the graph of P6.4.
func (v view) conducts(bay int) bool {
	x := v.sides(bay)
	return v.across(x[0], bay).Kind != None && v.Closed[bay]
}

// supplied reports whether a source can be reached in the graph from n, without the nodes that are barred.
func (v view) supplied(n Node, barred map[Node]bool) bool {
	seen := map[Node]bool{}
	maps.Copy(seen, barred)
	var visit func(n Node) bool
	visit = func(n Node) bool {
		if n.Kind == SourceNode {
			return true
		}
		seen[n] = true
		for bay, next := range v.around(n) {
			if v.Closed[bay] && !seen[next] && visit(next) {
				return true
			}
		}
		return false
	}
	return visit(n)
}

// has reports whether i is the index of an element of a list.
func has[T any](l []T, i int) bool { return 0 <= i && i < len(l) }
