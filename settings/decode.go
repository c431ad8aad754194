package settings

import (
	"strings"

	"substation/api"
	"substation/syntax"
)

// decoder reads relays from statements: it checks each one after those before it, and has the bays of the diagram by their names.
type decoder struct {
	checker
	bayOf map[string]int
	forms map[string][]form
}

// newDecoder returns a decoder that has read no relay.
func newDecoder(s api.Station) decoder {
	d := decoder{checker: newChecker(s), bayOf: map[string]int{}, forms: blockForms()}
	for i, b := range s.Bays {
		d.bayOf[b.Name] = i
	}
	return d
}

// ofDiagram reports whether a statement describes a diagram.
func ofDiagram(item api.Item) bool {
	switch firstWord(item) {
	case "station", "bus", "line", "source", "bay":
		return true
	}
	return false
}

// read reads a relay; the number is the line of the error.
func (d decoder) read(item api.Item) (api.Relay, int, api.Errno) {
	line := item.Line
	occurred := map[string]bool{}
	r, e := d.readHead(item)
	if e != api.OK {
		goto failed
	}
	for _, kid := range item.Kids {
		e = d.readSetting(&r, kid, occurred)
		if e != api.OK {
			line = kid.Line
			goto failed
		}
	}
	e = d.add(r)
	if e != api.OK {
		goto failed
	}
	return r, 0, api.OK
failed:
	return api.Relay{}, line, e
}

// readHead reads what the statement of a relay says before its block.
func (d decoder) readHead(item api.Item) (api.Relay, api.Errno) {
	if v, ok := match(item, "relay NAME bus {}"); ok {
		return api.Relay{Name: v.names[0], Kind: api.BusRelay, Bay: -1}, api.OK
	}
	for _, kind := range []int{api.LineRelay, api.SourceRelay, api.CouplerRelay} {
		v, ok := match(item, "relay NAME "+kindWord(kind)+" NAME {}")
		if !ok {
			continue
		}
		bay, known := d.bayOf[v.names[1]]
		if !known {
			return api.Relay{}, api.ErrUnknown
		}
		return api.Relay{Name: v.names[0], Kind: kind, Bay: bay}, api.OK
	}
	return api.Relay{}, api.ErrSyntax
}

// readSetting reads a statement in the block of a relay. What may occur only once is kept in occurred.
func (d decoder) readSetting(r *api.Relay, item api.Item, occurred map[string]bool) api.Errno {
	for _, f := range d.forms[firstWord(item)] {
		v, ok := match(item, f.words)
		if !ok {
			continue
		}
		if what := unique(item); what != "" && !enter(occurred, what) {
			return api.ErrDuplicate
		}
		f.set(r, v)
		return api.OK
	}
	return api.ErrSyntax
}

// unique returns what may occur only once in a block, of a statement that has one of the forms; it is empty if there may be any number of such statements.
func unique(item api.Item) string {
	switch first := firstWord(item); first {
	case "rule", "set", "publish", "subscribe":
		return ""
	case "zone":
		return first + " " + item.Words[1].Text
	default:
		return first
	}
}

// values are what the words of a statement say that its form leaves open.
type values struct {
	names []string
	n     []int
	text  string
}

// match reports whether a statement has a form, and returns its values. Forms are written as in the chapter: NAME stands for a plain word, N for a number, TEXT for a quoted word, .. at the end for any number of plain words, {} at the end for a block, and any other word for itself.
func match(item api.Item, form string) (values, bool) {
	form, block := strings.CutSuffix(form, " {}")
	form, more := strings.CutSuffix(form, " ..")
	words := strings.Fields(form)
	if item.Block != block || len(item.Words) < len(words) || len(item.Words) > len(words) && !more {
		return values{}, false
	}
	var v values
	for i, w := range item.Words {
		place := "NAME"
		if i < len(words) {
			place = words[i]
		}
		if !v.read(w, place) {
			return values{}, false
		}
	}
	return v, true
}

// read reads the word at a place of a form, and reports whether it fits.
func (v *values) read(w api.Word, place string) bool {
	if w.Quoted != (place == "TEXT") {
		return false
	}
	switch place {
	case "NAME":
		v.names = append(v.names, strings.Clone(w.Text))
	case "TEXT":
		v.text = strings.Clone(w.Text)
	case "N":
		n, ok := syntax.Number(w.Text)
		v.n = append(v.n, n)
		return ok
	default:
		return w.Text == place
	}
	return true
}

// firstWord returns the first word of a statement, which has one if syntax.Check finds no error.
func firstWord(item api.Item) string {
	if len(item.Words) == 0 {
		return ""
	}
	return item.Words[0].Text
}
