package station

import (
	"strings"

	"substation/api"
	"substation/syntax"
)

// decoder reads the elements of a diagram from statements; line is that of the statement that it reads.
type decoder struct {
	diagram
	line int
}

// readers returns the methods that read the statements of a diagram, by their first words.
func (d *decoder) readers() map[string]func(item api.Item) api.Errno {
	return map[string]func(item api.Item) api.Errno{
		"station": d.readStation,
		"bus":     d.readBus,
		"line":    d.readLine,
		"source":  d.readSource,
		"bay":     d.readBay,
	}
}

func (d *decoder) readStation(item api.Item) api.Errno {
	names, _, ok := match(item, "station NAME")
	switch {
	case !ok:
		return api.ErrSyntax
	case d.Name != "":
		return api.ErrDuplicate
	case !Name(names[0]):
		return api.ErrName
	}
	d.Name = names[0]
	return api.OK
}

func (d *decoder) readBus(item api.Item) api.Errno {
	names, _, ok := match(item, "bus NAME")
	if !ok {
		return api.ErrSyntax
	}
	return d.addBus(names[0])
}

func (d *decoder) readLine(item api.Item) api.Errno {
	names, n, ok := match(item, "line NAME N N N N")
	if !ok {
		return api.ErrSyntax
	}
	return d.addLine(api.Line{Name: names[0], Z1: api.Impedance{R: n[0], X: n[1]}, Z0: api.Impedance{R: n[2], X: n[3]}})
}

func (d *decoder) readSource(item api.Item) api.Errno {
	names, n, ok := match(item, "source NAME N N N N N")
	if !ok {
		return api.ErrSyntax
	}
	return d.addSource(api.Source{Name: names[0], Emf: n[0], Z1: api.Impedance{R: n[1], X: n[2]}, Z0: api.Impedance{R: n[3], X: n[4]}})
}

func (d *decoder) readBay(item api.Item) api.Errno {
	b, e := d.readHead(item)
	if e != api.OK {
		return e
	}
	occurred := map[string]bool{}
	for _, kid := range item.Kids {
		d.line = kid.Line
		if e := d.readDetail(&b, kid, occurred); e != api.OK {
			return e
		}
	}
	d.line = item.Line
	if !occurred["ct"] || !occurred["travel"] || !occurred["vt"] && b.Kind != api.Coupler {
		return api.ErrMissing
	}
	return d.addBay(b)
}

// readHead reads what the statement of a bay says before its block.
func (d *decoder) readHead(item api.Item) (api.Bay, api.Errno) {
	b := api.Bay{Closed: true}
	known := true
	if names, n, ok := match(item, "bay NAME line NAME N {}"); ok {
		b.Name, b.Kind, b.End = names[0], api.LineBay, n[0]
		b.Of, known = d.find("line", names[1])
	} else if names, _, ok := match(item, "bay NAME source NAME {}"); ok {
		b.Name, b.Kind = names[0], api.SourceBay
		b.Of, known = d.find("source", names[1])
	} else if names, n, ok := match(item, "bay NAME coupler N N {}"); ok {
		b.Name, b.Kind = names[0], api.Coupler
		b.Z = api.Impedance{R: n[0], X: n[1]}
	} else {
		return api.Bay{}, api.ErrSyntax
	}
	if !known {
		return api.Bay{}, api.ErrUnknown
	}
	return b, api.OK
}

// readDetail reads a statement in the block of a bay. The first words of those that may occur only once are kept in occurred.
func (d *decoder) readDetail(b *api.Bay, item api.Item, occurred map[string]bool) api.Errno {
	first := firstWord(item)
	ok := false
	switch first {
	case "ct":
		b.Ct, ok = setting(item)
	case "vt":
		b.Vt, ok = setting(item)
	case "sat":
		b.Sat, ok = setting(item)
	case "travel":
		b.Travel, ok = setting(item)
	case "breaker":
		b.Closed, ok = breaker(item)
	case "select":
		return d.readLink(b, item)
	}
	if !ok {
		return api.ErrSyntax
	}
	if occurred[first] {
		return api.ErrDuplicate
	}
	occurred[first] = true
	return api.OK
}

// readLink reads a link of a bay.
func (d *decoder) readLink(b *api.Bay, item api.Item) api.Errno {
	pos := api.Closed
	names, _, ok := match(item, "select NAME closed")
	if !ok {
		pos = api.Open
		names, _, ok = match(item, "select NAME open")
	}
	if !ok {
		return api.ErrSyntax
	}
	bus, known := d.find("bus", names[0])
	if !known {
		return api.ErrUnknown
	}
	b.Links = append(b.Links, api.Link{Bus: bus, Pos: pos})
	return api.OK
}

// setting returns the number of a statement with one number, and whether it is one.
func setting(item api.Item) (int, bool) {
	_, n, ok := match(item, firstWord(item)+" N")
	if !ok {
		return 0, false
	}
	return n[0], true
}

// breaker returns whether a statement says that the breaker is closed, and whether it says this or that it is open.
func breaker(item api.Item) (closed, ok bool) {
	_, _, closed = match(item, "breaker closed")
	_, _, open := match(item, "breaker open")
	return closed, closed || open
}

// match reports whether a statement has a form, and returns its names and numbers. Forms are written as in the chapter: NAME stands for a plain word, N for a number, {} at the end for a block, and any other word for itself.
func match(item api.Item, form string) (names []string, n []int, ok bool) {
	form, block := strings.CutSuffix(form, " {}")
	words := strings.Fields(form)
	if item.Block != block || len(item.Words) != len(words) {
		return nil, nil, false
	}
	for i, w := range item.Words {
		if w.Quoted {
			return nil, nil, false
		}
		switch words[i] {
		case "NAME":
			names = append(names, strings.Clone(w.Text))
		case "N":
			value, isNumber := syntax.Number(w.Text)
			if !isNumber {
				return nil, nil, false
			}
			n = append(n, value)
		default:
			if words[i] != w.Text {
				return nil, nil, false
			}
		}
	}
	return names, n, true
}

// firstWord returns the first word of a statement, which has one if syntax.Check finds no error.
func firstWord(item api.Item) string {
	if len(item.Words) == 0 {
		return ""
	}
	return item.Words[0].Text
}
