package station

import (
	"strconv"
	"strings"

	"substation/api"
)

// bayStatement returns the statement of a bay of the diagram s.
func bayStatement(s api.Station, b api.Bay) api.Item {
	item := statement("bay " + b.Name + bayObject(s, b))
	item.Block = true
	add := func(words string) { item.Kids = append(item.Kids, statement(words)) }
	add("ct" + numbers(b.Ct))
	if b.Kind != api.Coupler {
		add("vt" + numbers(b.Vt))
	}
	if b.Sat != 0 {
		add("sat" + numbers(b.Sat))
	}
	add("travel" + numbers(b.Travel))
	for _, k := range b.Links {
		if k.Pos == api.Closed {
			add("select " + s.Buses[k.Bus] + " closed")
		} else {
			add("select " + s.Buses[k.Bus] + " open")
		}
	}
	if !b.Closed {
		add("breaker open")
	}
	return item
}

// bayObject returns the words for what a bay belongs to, each with a blank before it.
func bayObject(s api.Station, b api.Bay) string {
	switch b.Kind {
	case api.LineBay:
		return " line " + s.Lines[b.Of].Name + numbers(b.End)
	case api.SourceBay:
		return " source " + s.Sources[b.Of].Name
	default:
		return " coupler" + numbers(b.Z.R, b.Z.X)
	}
}

// numbers returns the words for numbers, each with a blank before it.
func numbers(l ...int) string {
	text := ""
	for _, n := range l {
		text += " " + strconv.Itoa(n)
	}
	return text
}

// statement returns a statement without a block, with the words of a text.
func statement(text string) api.Item {
	var item api.Item
	for _, w := range strings.Fields(text) {
		item.Words = append(item.Words, api.Word{Text: w})
	}
	return item
}
