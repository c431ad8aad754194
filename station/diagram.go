package station

import (
	"cmp"

	"substation/api"
)

// element says what the name of an element denotes: its kind, by the first word of its statement, and its index among those of its kind.
type element struct {
	kind  string
	index int
}

// diagram is a diagram that is being built: its elements so far, also by their names. After the first error it is of no more use.
type diagram struct {
	api.Station
	elements map[string]element
}

// newDiagram returns a diagram without elements.
func newDiagram() diagram { return diagram{elements: map[string]element{}} }

// addAll adds elements of a kind, up to the first one that has an error.
func addAll[T any](l []T, add func(x T) api.Errno) api.Errno {
	for _, x := range l {
		if e := add(x); e != api.OK {
			return e
		}
	}
	return api.OK
}

// find returns the index of the element of a kind that has the name, and whether there is one.
func (d *diagram) find(kind, name string) (int, bool) {
	x, found := d.elements[name]
	return x.index, found && x.kind == kind
}

// enter enters the name of the next element of a kind, of which there are n so far.
func (d *diagram) enter(kind, name string, n, limit int) api.Errno {
	if n == limit {
		return api.ErrCount
	}
	if !Name(name) {
		return api.ErrName
	}
	if _, taken := d.elements[name]; taken {
		return api.ErrDuplicate
	}
	d.elements[name] = element{kind, n}
	return api.OK
}

// addBus adds a bus, or returns its first error.
func (d *diagram) addBus(name string) api.Errno {
	if e := d.enter("bus", name, len(d.Buses), api.MaxBuses); e != api.OK {
		return e
	}
	d.Buses = append(d.Buses, name)
	return api.OK
}

// addLine adds a line, or returns its first error.
func (d *diagram) addLine(x api.Line) api.Errno {
	if e := d.enter("line", x.Name, len(d.Lines), api.MaxLines); e != api.OK {
		return e
	}
	if !possible(x.Z1) || !possible(x.Z0) {
		return api.ErrRange
	}
	d.Lines = append(d.Lines, x)
	return api.OK
}

// addSource adds a source, or returns its first error.
func (d *diagram) addSource(x api.Source) api.Errno {
	if e := d.enter("source", x.Name, len(d.Sources), api.MaxSources); e != api.OK {
		return e
	}
	if !within(x.Emf, 1, api.MaxEmf) || !possible(x.Z1) || !possible(x.Z0) {
		return api.ErrRange
	}
	d.Sources = append(d.Sources, x)
	return api.OK
}

// addBay adds a bay, or returns its first error.
func (d *diagram) addBay(b api.Bay) api.Errno {
	e := cmp.Or(
		d.enter("bay", b.Name, len(d.Bays), api.MaxBays),
		d.checkObject(b),
		checkNumbers(b),
		d.checkPlace(b),
		d.checkLinks(b),
	)
	if e == api.OK {
		d.Bays = append(d.Bays, b)
	}
	return e
}

// checkObject returns the error of what a bay says it belongs to.
func (d *diagram) checkObject(b api.Bay) api.Errno {
	objects := 0
	switch b.Kind {
	case api.LineBay:
		objects = len(d.Lines)
	case api.SourceBay:
		objects = len(d.Sources)
	case api.Coupler:
		objects = 1
	default:
		return api.ErrKind
	}
	if !within(b.Of, 0, objects-1) {
		return api.ErrUnknown
	}
	return api.OK
}

// checkNumbers returns the error of the numbers of a bay.
func checkNumbers(b api.Bay) api.Errno {
	ends := 1
	if b.Kind == api.LineBay {
		ends = 2
	}
	ok := within(b.End, 0, ends-1) && within(b.Ct, 1, api.MaxCt) && within(b.Sat, 0, api.MaxSample) && within(b.Travel, 1, api.MaxTravel)
	if b.Kind == api.Coupler {
		ok = ok && possible(b.Z) && b.Vt == 0
	} else {
		ok = ok && b.Z == (api.Impedance{}) && within(b.Vt, 1, api.MaxVt)
	}
	if !ok {
		return api.ErrRange
	}
	return api.OK
}

// checkPlace returns the error of a bay where there is one already. There may be any number of couplers.
func (d *diagram) checkPlace(b api.Bay) api.Errno {
	for _, x := range d.Bays {
		if b.Kind != api.Coupler && x.Kind == b.Kind && x.Of == b.Of && x.End == b.End {
			return api.ErrConflict
		}
	}
	return api.OK
}

// checkLinks returns the first error of the links of a bay.
func (d *diagram) checkLinks(b api.Bay) api.Errno {
	least := 1
	if b.Kind == api.Coupler {
		least = 2
	}
	if !within(len(b.Links), least, 2) {
		return api.ErrCount
	}
	for i, k := range b.Links {
		switch {
		case !within(k.Bus, 0, len(d.Buses)-1):
			return api.ErrUnknown
		case k.Pos != api.Closed && (k.Pos != api.Open || b.Kind == api.Coupler):
			return api.ErrValue
		case i > 0 && b.Links[i-1].Bus == k.Bus:
			return api.ErrConflict
		}
	}
	return api.OK
}

// possible reports whether z may be the impedance of a line, a source or a coupler.
func possible(z api.Impedance) bool {
	return within(z.R, 0, api.MaxOhm) && within(z.X, 1, api.MaxOhm)
}

// within reports whether n is from low to high.
func within(n, low, high int) bool { return low <= n && n <= high }
