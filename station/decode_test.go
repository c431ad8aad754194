package station_test

import (
	"fmt"
	"slices"
	"strings"
	"testing"

	"substation/api"
	"substation/station"
)

func TestDecodeSample(t *testing.T) {
	expectDiagram(t, sampleText, sample())
	expectDiagram(t, "station S; bus A;", api.Station{Name: "S", Buses: []string{"A"}})
}

// TestDecodeOrder looks at the order of statements: elements are numbered as they are read, and only what is used has to come before.
func TestDecodeOrder(t *testing.T) {
	want := api.Station{
		Name:    "S",
		Buses:   []string{"B", "A"},
		Lines:   []api.Line{{Name: "M", Z1: ohms(1, 2), Z0: ohms(3, 4)}, {Name: "L", Z1: ohms(5, 6), Z0: ohms(7, 8)}},
		Sources: []api.Source{{Name: "G", Emf: 9, Z1: ohms(0, 1), Z0: ohms(0, 2)}},
		Bays: []api.Bay{
			{Name: "Q", Kind: api.LineBay, Of: 0, End: 1, Links: links(open(0)), Closed: true, Ct: 1, Vt: 2, Travel: 3},
			{Name: "P", Kind: api.SourceBay, Of: 0, Links: links(closed(1), open(0)), Closed: true, Ct: 4, Vt: 5, Travel: 6},
			{Name: "K", Kind: api.Coupler, Z: ohms(0, 9), Links: links(closed(1), closed(0)), Ct: 6, Travel: 1},
			{Name: "R", Kind: api.LineBay, Of: 1, End: 0, Links: links(closed(1)), Closed: true, Ct: 1, Vt: 1, Travel: 1},
		},
	}
	expectDiagram(t, `
		line M 1 2 3 4; bus B;
		bay Q line M 1 { ct 1; vt 2; travel 3; select B open; }
		source G 9 0 1 0 2; bus A;
		bay P source G { select A closed; travel 6; vt 5; ct 4; select B open; }
		station S;
		bay K coupler 0 9 { breaker open; select A closed; ct 6; select B closed; travel 1; }
		line L 5 6 7 8;
		bay R line L 0 { breaker closed; vt 1; select A closed; sat 0; travel 1; ct 1; }
	`, want)
}

// TestDecodeBlockOrder reads the statements of a block in all orders.
func TestDecodeBlockOrder(t *testing.T) {
	words := []string{"ct 7;", "vt 8;", "sat 9;", "travel 6;", "select A open;", "select B closed;", "breaker open;"}
	want := sized(2, 0, 1, 1)
	want.Sources[0] = api.Source{Name: "G", Emf: 1, Z1: ohms(0, 1), Z0: ohms(0, 1)}
	want.Buses = []string{"A", "B"}
	b := api.Bay{Name: "Q", Kind: api.SourceBay, Ct: 7, Vt: 8, Sat: 9, Travel: 6}
	var try func(n int)
	try = func(n int) {
		if n < len(words) {
			for i := n; i < len(words); i++ {
				words[n], words[i] = words[i], words[n]
				try(n + 1)
				words[n], words[i] = words[i], words[n]
			}
			return
		}
		b.Links = links(open(0), closed(1))
		if slices.Index(words, "select A open;") > slices.Index(words, "select B closed;") {
			b.Links = links(closed(1), open(0))
		}
		want.Bays[0] = b
		expectDiagram(t, "station S; bus A; bus B; source G 1 0 1 0 1; bay Q source G {"+strings.Join(words, " ")+"}", want)
	}
	try(0)
}

// TestDecodeDefaults looks at statements that need not occur.
func TestDecodeDefaults(t *testing.T) {
	const before = "station S; bus A; bus B; line L 1 2 3 4; source G 1 0 1 0 1; "
	for _, c := range []struct {
		block  string
		sat    int
		closed bool
	}{
		{"", 0, true},
		{"sat 0;", 0, true},
		{"sat 16383;", 16383, true},
		{"breaker closed;", 0, true},
		{"breaker open;", 0, false},
		{"breaker open; sat 5;", 5, false},
	} {
		for _, bay := range []string{"bay Q line L 0 { vt 1;", "bay Q source G { vt 1;", "bay Q coupler 0 1 {", "bay Q coupler 0 1 { vt 0;"} {
			s, line, e := station.Decode(parse(t, before+bay+" ct 1; travel 1; select A closed; select B closed; "+c.block+"}"))
			if line != 0 || e != api.OK || len(s.Bays) != 1 || s.Bays[0].Sat != c.sat || s.Bays[0].Closed != c.closed {
				t.Errorf("P5.2: Decode of %q with %q = %s, %d, %d", bay, c.block, dump(s), line, e)
			}
		}
	}
}

// TestDecodeIgnored looks at statements of other kinds, which do not matter at depth 0, whatever they contain.
func TestDecodeIgnored(t *testing.T) {
	for _, other := range []string{
		"relay R source Q { definite 10 2; set D trip time; publish D 1 4; }",
		"stations S2;",
		"Station S2;",
		"BUS B;",
		"Bus B;",
		"bus1 B;",
		"ct 1; vt 1; sat 1; travel 1; select A closed; breaker open;",
		"coupler;",
		"x \"bus\" { bus B; station S2; bay { } }",
		"relay bus; b; name \"\";",
		"x { y { z { } } }",
	} {
		want := sample()
		expectDiagram(t, other+sampleText+other, want)
		expectDiagram(t, strings.ReplaceAll(sampleText, "\nbay", other+"\nbay"), want)
	}
	expectError(t, "relay R bus { }", 0, api.ErrMissing)
}

// TestDecodeForms looks at statements that do not have the forms of the table, outside of blocks.
func TestDecodeForms(t *testing.T) {
	const before = "bus A; line L 1 2 3 4; source G 1 0 1 0 1;\n"
	const block = "{ ct 1; vt 1; travel 1; select A closed; }"
	for _, s := range []string{
		"station;", "station S T;", "station \"S\";", "station { }", "station S { }", "station S { bus B; }", "station S S;",
		"bus;", "bus B C;", "bus \"B\";", "bus B { }", "bus { }", "bus B { ct 1; }",
		"line;", "line M;", "line M 1 2 3;", "line M 1 2 3 4 5;", "line \"M\" 1 2 3 4;",
		"line M 1 2 3 4 { }", "line M 1 2 3 4 { ct 1; }", "line 1 2 3 4;", "line M N 1 2 3 4;",
		"source;", "source H;", "source H 1 2 3 4;", "source H 1 2 3 4 5 6;", "source \"H\" 1 2 3 4 5;",
		"source H 1 2 3 4 5 { }", "source 1 2 3 4 5;", "source H \"\" 1 2 3 4 5;",
		"bay;", "bay { }", "bay Q;", "bay Q { }", "bay Q { ct 1; }",
		"bay Q line L 0;", "bay Q source G;", "bay Q coupler 0 1;",
		"bay Q line " + block, "bay Q line L " + block, "bay Q line L 0 0 " + block, "bay Q line 0 " + block, "bay Q line 0 L " + block,
		"bay \"Q\" line L 0 " + block, "bay Q \"line\" L 0 " + block, "bay Q line \"L\" 0 " + block, "bay Q line L \"0\" " + block,
		"bay Q source " + block, "bay Q source G 0 " + block, "bay Q source G G " + block,
		"bay \"Q\" source G " + block, "bay Q \"source\" G " + block, "bay Q source \"G\" " + block,
		"bay Q coupler " + block, "bay Q coupler 1 " + block, "bay Q coupler 0 1 2 " + block, "bay Q coupler A B " + block, "bay Q coupler A 1 " + block, "bay Q coupler 0 B " + block,
		"bay \"Q\" coupler 0 1 " + block, "bay Q \"coupler\" 0 1 " + block, "bay Q coupler \"0\" 1 " + block, "bay Q coupler 0 \"1\" " + block,
		"bay Q bus A " + block, "bay Q Line L 0 " + block, "bay Q lines L 0 " + block, "bay Q source: G " + block, "bay Q coupler. 0 1 " + block, "bay Q G " + block, "bay line L 0 " + block, "bay Q L 0 " + block, "bay source G " + block, "bay coupler 0 1 " + block,
	} {
		expectError(t, before+s, 2, api.ErrSyntax)
		expectError(t, before+"\n"+s+"bus;", 3, api.ErrSyntax)
	}
}

// notNumbers are words that are not numbers.
var notNumbers = []string{"x", "N", "NAME", "-", "+1", "1.0", "01", "00", "-0", "-01", "--1", "1-", "12345678", "-12345678", "0x1", "1e1", "1_0", "1/1", "\"1\"", "\"\""}

// TestDecodeNumbers puts what is not a number in the place of each number, and numbers that are out of range.
func TestDecodeNumbers(t *testing.T) {
	const before = "bus A; bus B; line L 1 2 3 4; source G 1 0 1 0 1;\n"
	const block = "{\nct %d;\nvt %d;\nsat %d;\ntravel %d;\nselect A closed; select B closed; }"
	for _, form := range []struct {
		text string
		// The numbers of a valid statement, in their order, and the lines where they are.
		n, lines []int
	}{
		{"line M %d %d %d %d;", []int{1, 2, 3, 4}, []int{2, 2, 2, 2}},
		{"source H %d %d %d %d %d;", []int{1, 2, 3, 4, 5}, []int{2, 2, 2, 2, 2}},
		{"bay Q line L %d " + block, []int{1, 1, 1, 1, 1}, []int{2, 3, 4, 5, 6}},
		{"bay Q source G " + block, []int{1, 1, 1, 1}, []int{3, 4, 5, 6}},
		{"bay Q coupler %d %d " + block, []int{1, 1, 1, 0, 1, 1}, []int{2, 2, 3, 4, 5, 6}},
	} {
		n := make([]any, len(form.n))
		for i := range n {
			n[i] = form.n[i]
		}
		expectError(t, before+fmt.Sprintf(form.text, n...), 0, api.ErrMissing)
		text := strings.ReplaceAll(form.text, "%d", "%v")
		for i, value := range n {
			for _, word := range notNumbers {
				n[i] = word
				expectError(t, before+fmt.Sprintf(text, n...), form.lines[i], api.ErrSyntax)
			}
			// Numbers that are out of range are an error of the element, with the line of its statement.
			for _, word := range []string{"-1", "-9999999", "9999999"} {
				n[i] = word
				expectError(t, before+fmt.Sprintf(text, n...), 2, api.ErrRange)
			}
			n[i] = value
		}
	}
}

// TestDecodeRanges reads every number of sample at its limits, and beyond.
func TestDecodeRanges(t *testing.T) {
	for _, c := range allNumbers() {
		for _, n := range []int{c.low - 1, c.low, c.high, c.high + 1} {
			s := sample()
			*c.at(&s) = n
			text := write(s)
			// What the statements of a bay's kind do not say is not written.
			if text == sampleText {
				continue
			}
			if c.low <= n && n <= c.high {
				expectDiagram(t, text, s)
			} else {
				expectError(t, text, lineOf(text, strings.Fields(c.what)), api.ErrRange)
			}
		}
	}
}

// lineOf returns the line of an element of sample, which is given by its kind and its index or name.
func lineOf(text string, what []string) int {
	start := map[string]string{"line0": "line L", "line1": "line M", "source0": "source G", "source1": "source H"}[what[0]+what[1]]
	if what[0] == "bay" {
		start = "bay " + what[1]
	}
	return 1 + strings.Count(text[:strings.Index(text, start)], "\n")
}

// TestDecodeBlockForms looks at statements that do not have the forms of the table, in blocks.
func TestDecodeBlockForms(t *testing.T) {
	const before = "station S; bus A; bus B; line L 1 2 3 4; source G 1 0 1 0 1;\n"
	for _, s := range []string{
		"ct;", "ct 1 2;", "ct \"1\";", "ct x;", "ct ct;", "ct 1 { }", "ct { }", "ct 1 { ct 1; }", "ct 1 closed;",
		"vt;", "vt 1 2;", "vt \"1\";", "vt x;", "vt 1 { }", "vt { }",
		"sat;", "sat 1 2;", "sat \"1\";", "sat x;", "sat 1 { }", "sat { }",
		"travel;", "travel 1 2;", "travel \"1\";", "travel x;", "travel 1 { }", "travel { }",
		"select;", "select A;", "select closed;", "select A closed open;", "select \"A\" closed;", "select A \"closed\";", "select A \"open\";", "select A moving;", "select A Closed;", "select A 1;", "select A closed { }", "select A open { }", "select { }", "select A { }", "select closed A;", "select A B closed;",
		"breaker;", "breaker A;", "breaker open closed;", "breaker \"open\";", "breaker \"closed\";", "breaker Open;", "breaker 1;", "breaker 0;", "breaker closed { }", "breaker open { }", "breaker { }", "breaker moving;",
		"station S;", "station T;", "bus A;", "bus C;", "line M 1 2 3 4;", "source H 1 0 1 0 1;", "bay P source G { ct 1; vt 1; travel 1; select A closed; }", "bay;", "coupler 0 1;", "relay R bus { }", "definite 1 2;", "x;", "x { }", "closed;", "open;", "Ct 1;", "CT 1;", "cts 1;", "end 1;", "links;",
	} {
		for _, bay := range []string{"bay Q line L 0", "bay Q source G", "bay Q coupler 0 1"} {
			expectError(t, before+bay+" {\n"+s+"}", 3, api.ErrSyntax)
			expectError(t, before+bay+" {\nselect A closed;\nsat 1;\n"+s+"ct; }", 5, api.ErrSyntax)
			expectError(t, before+bay+" {\nct 1; travel 1; vt 0;\nselect A closed;\nselect B closed;\n"+s+"\nselect C closed; }", 6, api.ErrSyntax)
		}
	}
}

func TestDecodeDuplicates(t *testing.T) {
	expectError(t, "station S;\nbus A;\nstation T;", 3, api.ErrDuplicate)
	expectError(t, "station S;\nbus A;\nstation S;", 3, api.ErrDuplicate)
	expectError(t, "station S;\nstation 1;", 2, api.ErrDuplicate)
	expectError(t, "station S;\nstation;", 2, api.ErrSyntax)
	expectError(t, "station 1;\nstation S;", 1, api.ErrName)
	elements := []string{"bus %s;", "line %s 1 2 3 4;", "source %s 1 0 1 0 1;", "bay %s coupler 0 1 {\nct 1; travel 1; select A closed; select B closed; }"}
	const before = "bus A; bus B;\n"
	for _, first := range elements {
		for _, next := range elements {
			n := 3 + strings.Count(first, "\n")
			text := before + fmt.Sprintf(first, "X") + "\n" + fmt.Sprintf(next, "X") + "bus;"
			expectError(t, text, n, api.ErrDuplicate)
			expectError(t, strings.Replace(text, "X", "x", 1), n+strings.Count(next, "\n"), api.ErrSyntax)
			expectError(t, "station X;"+strings.Replace(text, "X", "x", 1), n+strings.Count(next, "\n"), api.ErrSyntax)
			expectError(t, before+fmt.Sprintf(first, "A"), 2, api.ErrDuplicate)
		}
	}
}

func TestDecodeBlockDuplicates(t *testing.T) {
	const before = "bus A; bus B; line L 1 2 3 4; source G 1 0 1 0 1;\n"
	for _, bay := range []string{"bay Q line L 0 {", "bay Q source G {", "bay Q coupler 0 1 {"} {
		for _, c := range [][2]string{{"ct 1;", "ct 2;"}, {"ct 1;", "ct 1;"}, {"vt 0;", "vt 0;"}, {"vt 1;", "vt 2;"}, {"sat 0;", "sat 0;"}, {"sat 1;", "sat 2;"}, {"travel 1;", "travel 1;"}, {"travel 3;", "travel 2;"}, {"breaker open;", "breaker open;"}, {"breaker closed;", "breaker closed;"}, {"breaker open;", "breaker closed;"}, {"breaker closed;", "breaker open;"}} {
			expectError(t, before+bay+"\n"+c[0]+"\n"+c[1]+"}", 4, api.ErrDuplicate)
			expectError(t, before+bay+"\n"+c[0]+"\nselect A closed;\n"+c[1]+"\nselect C closed; }", 5, api.ErrDuplicate)
			expectError(t, before+bay+"\n"+c[0]+"\nselect C closed;\n"+c[1]+"}", 4, api.ErrUnknown)
		}
	}
	// Two links to one bus are no duplicate, but a conflict of the bay.
	expectError(t, before+"bay Q line L 0 {\nct 1; vt 1; travel 1; select A closed;\nselect A closed; }", 2, api.ErrConflict)
	expectError(t, before+"bay Q coupler 0 1 {\nct 1; travel 1; select A closed;\nselect A closed; }", 2, api.ErrConflict)
	// Each bay has a block of its own.
	expectError(t, before+"bay Q line L 0 { ct 1; vt 1; sat 1; travel 1; breaker open; select A closed; }\nbay P source G { ct 1; vt 1; sat 1; travel 1; breaker open; select A closed; }", 0, api.ErrMissing)
}

// TestDecodeUnknown looks at names that are not read before, or are those of elements of other kinds.
func TestDecodeUnknown(t *testing.T) {
	const block = " {\nct 1; vt 1; travel 1; select A closed; }\n"
	const line, source = "line L 1 2 3 4;\n", "source G 1 0 1 0 1;\n"
	for _, object := range []string{"line L 0", "line G 0", "line A 0", "line S 0", "line Q 0", "line P 0", "line l 0", "line LL 0", "line 1 0", "line . 0", "line L.1 0", "source L", "source G", "source A", "source S", "source Q", "source P", "source g", "source 5"} {
		before := "station S; bus A; line M 1 2 3 4; source H 1 0 1 0 1; bay P source H" + block
		if !strings.HasPrefix(object, "line L ") {
			before += line
		}
		if object != "source G" {
			before += source
		}
		n := 1 + strings.Count(before, "\n")
		expectError(t, before+"bay Q "+object+block+line+source, n, api.ErrUnknown)
		// The object comes before the block, and after the form of the statement.
		expectError(t, before+"bay Q "+object+" { x; }", n, api.ErrUnknown)
		expectError(t, before+"bay Q "+object+" { }", n, api.ErrUnknown)
		expectError(t, before+"bay 1 "+object+block, n, api.ErrUnknown)
		expectError(t, before+"bay P "+object+block, n, api.ErrUnknown)
		expectError(t, before+"bay Q "+object+";", n, api.ErrSyntax)
	}
	for _, bus := range []string{"B", "L", "G", "S", "P", "Q", "a", "AA", "1", "-", "closed", "open"} {
		before := "station S; bus A; " + line + source + "bay P source G" + block
		n := 1 + strings.Count(before, "\n")
		for _, bay := range []string{"bay Q line L 0", "bay Q coupler 0 1"} {
			for _, pos := range []string{"closed", "open"} {
				expectError(t, before+bay+" {\nct 1;\nselect "+bus+" "+pos+";\n x; }", n+2, api.ErrUnknown)
				expectError(t, before+bay+" {\nselect A closed;\nselect "+bus+" "+pos+";\nct 1; }\nbus B;", n+2, api.ErrUnknown)
			}
		}
	}
}

func TestDecodeMissing(t *testing.T) {
	const before = "station S; bus A; bus B; line L 1 2 3 4; source G 1 0 1 0 1;\n"
	for _, bay := range []string{"bay Q line L 0 {", "bay Q source G {", "bay Q coupler 0 1 {", "bay 1 line L 3 {", "bay A source G {", "bay A coupler 9999 0 {"} {
		for _, block := range []string{
			"", "ct 1;", "travel 1;", "vt 1;", "vt 0;", "ct 1; vt 1;", "vt 1; travel 1;", "sat 1; breaker closed; select A closed; select B closed;",
			"ct 1; vt 1; sat 1;", "sat 1; vt 1; travel 1; breaker open;", "ct 0; vt -1;", "select A closed; select A open; select B open;",
		} {
			expectError(t, before+bay+"\n"+block+"\n}", 2, api.ErrMissing)
		}
		if strings.Contains(bay, "coupler") {
			continue
		}
		for _, block := range []string{"ct 1; travel 1;", "travel 1; ct 1; sat 1; breaker closed; select A closed;"} {
			expectError(t, before+bay+"\n"+block+"\n}", 2, api.ErrMissing)
		}
	}
	expectError(t, before+"bay Q coupler 0 1 {\nct 1; travel 1;\n}", 2, api.ErrCount)
	expectError(t, before+"bay Q coupler 0 1 {\nct 1; travel 1; vt 1;\n}", 2, api.ErrRange)
}

// TestDecodeEnd looks at what is missing at the end, which has line 0.
func TestDecodeEnd(t *testing.T) {
	for s, want := range map[string]api.Errno{
		"":                                   api.ErrMissing,
		"bus A;":                             api.ErrMissing,
		"relay R bus { }":                    api.ErrMissing,
		"station S;":                         api.ErrCount,
		"line L 1 2 3 4;":                    api.ErrMissing,
		"station S; line L 1 2 3 4;":         api.ErrCount,
		"\n\nsource G 1 0 1 0 1; station S;": api.ErrCount,
	} {
		expectError(t, s, 0, want)
	}
}

func TestDecodeNames(t *testing.T) {
	const before = "station S; bus A; bus B; line L 1 2 3 4; source G 1 0 1 0 1;\n"
	const block = "{\nct 1; travel 1; select A closed; select B closed; }"
	for _, name := range []string{"1", "_", "_x", "x234567890123", "x-", "x.y", "-", "+", ".", "/", ":", "x/", "x:", "x+", "12", "-5", strings.Repeat("x", 120)} {
		expectError(t, "bus A;\nstation "+name+";", 2, api.ErrName)
		for _, s := range []string{"bus %s;", "line %s 1 2 3 4;", "source %s 1 0 1 0 1;", "line %s -1 0 0 0;", "source %s 0 0 0 0 0;", "bay %s coupler 0 1 " + block, "bay %s coupler 0 0 " + block, "bay %s line L 2 " + strings.Replace(block, "ct 1", "ct 0; vt 1", 1)} {
			expectError(t, before+fmt.Sprintf(s, name), 2, api.ErrName)
		}
	}
	for _, name := range []string{"x", "x23456789_12", "x_"} {
		for _, s := range []string{"bus %s;", "line %s 1 2 3 4;", "source %s 1 0 1 0 1;", "bay %s coupler 0 1 " + block} {
			if s, line, e := station.Decode(parse(t, before+fmt.Sprintf(s, name))); line != 0 || e != api.OK {
				t.Errorf("P5.3: Decode with the name %s = %s, %d, %d", name, dump(s), line, e)
			}
		}
		expectDiagram(t, "station "+name+"; bus B;", api.Station{Name: name, Buses: []string{"B"}})
	}
}

// TestDecodeCounts reads as many elements as there may be, and one more, which comes before the errors of the new element.
func TestDecodeCounts(t *testing.T) {
	full := sized(4, 6, 4, 16)
	text := write(full)
	expectDiagram(t, text, full)
	n := 1 + strings.Count(text, "\n")
	const block = "{\nct 1; travel 1; vt 1; select A0 closed; }"
	more := []struct{ text, valid string }{
		{"bus %s;", "A9"},
		{"line %s 1 2 3 4;", "L9"},
		{"source %s 1 0 1 0 1;", "G9"},
		{"bay %s line L0 0 " + block, "Q99"},
		{"bay %s source G0 " + block, "Q99"},
		{"bay %s coupler 0 1 " + strings.Replace(block, "vt 1; ", "", 1), "Q99"},
		{"bay %s coupler 0 0 " + block, "Q99"},
	}
	for _, c := range more {
		for _, name := range []string{c.valid, "1", "A0", "Q0"} {
			expectError(t, text+fmt.Sprintf(c.text, name), n, api.ErrCount)
		}
		expectError(t, text+fmt.Sprintf(c.text, "X Y"), n, api.ErrSyntax)
	}
	expectError(t, text+"bay Q99 line L0 0 {\nct 1; travel 1; }", n, api.ErrMissing)
	expectError(t, text+"bay Q99 line L9 0 "+block, n, api.ErrUnknown)
	expectError(t, text+"bay Q99 line L0 0 {\nct 1; travel 1; vt 1; select A9 closed; }", n+1, api.ErrUnknown)
	expectError(t, text+"station S;", n, api.ErrDuplicate)
	expectError(t, text+"bus A4 A5;", n, api.ErrSyntax)
}

// TestDecodeBays looks at the errors of a bay, which have the line of its statement.
func TestDecodeBays(t *testing.T) {
	const before = "station S; bus A; bus B; bus C; line L 1 2 3 4; line M 1 2 3 4; source G 1 0 1 0 1; source H 1 0 1 0 1;\n"
	const rest = "ct 1; travel 1; vt 1;\n"
	const one = "{\n" + rest + "select A closed; }\n"
	for s, want := range map[string]api.Errno{
		"bay Q line L 0 {\n" + rest + "}":                                                           api.ErrCount,
		"bay Q line L 0 {\n" + rest + "select A open; select B open; select C open; }":              api.ErrCount,
		"bay Q line L 0 {\n" + rest + "select A open; select A closed; }":                           api.ErrConflict,
		"bay Q line L 2 " + one:                                                                     api.ErrRange,
		"bay Q line L -1 " + one:                                                                    api.ErrRange,
		"bay Q source G {\n" + rest + "}":                                                           api.ErrCount,
		"bay Q coupler 0 1 {\nct 1; travel 1; select A closed; }":                                   api.ErrCount,
		"bay Q coupler 0 1 {\nct 1; travel 1; select A closed; select B closed; select C closed; }": api.ErrCount,
		"bay Q coupler 0 1 {\nct 1; travel 1; select A open; select B closed; }":                    api.ErrValue,
		"bay Q coupler 0 1 {\nct 1; travel 1; select A closed; select B open; }":                    api.ErrValue,
		"bay Q coupler 0 1 {\nct 1; travel 1; select A closed; select A open; }":                    api.ErrValue,
		"bay Q coupler 0 1 {\nct 1; travel 1; select A closed; select A closed; }":                  api.ErrConflict,
		"bay Q coupler 0 1 " + one:                                                                  api.ErrRange,
		"bay Q coupler 0 0 {\nct 1; travel 1; select A closed; select B closed; }":                  api.ErrRange,
		"bay Q coupler -1 1 {\nct 1; travel 1; select A closed; select B closed; }":                 api.ErrRange,
		"bay Q coupler 1001 1 {\nct 1; travel 1; select A closed; select B closed; }":               api.ErrRange,
		"bay Q coupler 0 1001 {\nct 1; travel 1; select A closed; select B closed; }":               api.ErrRange,
		"bay Q line L 1 {\n" + strings.Replace(rest, "ct 1", "ct 101", 1) + "}":                     api.ErrRange,
	} {
		expectError(t, before+s+"\nbus;", 2, want)
	}
	const first = "bay Q line L 0 " + one
	const last = "bay P source G " + one
	n := 2 + strings.Count(first+last, "\n")
	for s, want := range map[string]api.Errno{
		"bay R line L 0 " + one:           api.ErrConflict,
		"bay R source G " + one:           api.ErrConflict,
		"bay Q line L 0 " + one:           api.ErrDuplicate,
		"bay R line L 0 {\n" + rest + "}": api.ErrConflict,
		"bay R line L 0 {\n" + strings.Replace(rest, "travel 1", "travel 0", 1) + "}": api.ErrRange,
	} {
		expectError(t, before+first+last+s+"\nbus;", n, want)
	}
	for _, s := range []string{"bay R line L 1 " + one, "bay R line M 0 " + one, "bay R source H " + one} {
		if s, line, e := station.Decode(parse(t, before+first+last+s)); line != 0 || e != api.OK {
			t.Errorf("P5.3: Decode of a bay at another place = %s, %d, %d", dump(s), line, e)
		}
	}
}

// TestDecodeFirstError looks at texts with errors in several statements: the first one decides, whatever the kinds of its statement and its error.
func TestDecodeFirstError(t *testing.T) {
	bad := []struct {
		text string
		at   int
		want api.Errno
	}{
		{"bus;", 0, api.ErrSyntax},
		{"station S;", 0, api.ErrDuplicate},
		{"bus 1;", 0, api.ErrName},
		{"bus A;", 0, api.ErrDuplicate},
		{"line M 1 2 3 0;", 0, api.ErrRange},
		{"source H 0 0 1 0 1;", 0, api.ErrRange},
		{"bay Q line K 0 { }", 0, api.ErrUnknown},
		{"bay Q coupler 0 1 { }", 0, api.ErrMissing},
		{"bay Q coupler 0 1 {\nct 1;\nct 1; }", 2, api.ErrDuplicate},
		{"bay Q coupler 0 1 {\nselect B closed; }", 1, api.ErrUnknown},
		{"bay Q coupler 0 1 {\nct 1; travel 1;\nsat x; }", 2, api.ErrSyntax},
		{"bay Q coupler 0 1 {\nct 1; travel 1; }", 0, api.ErrCount},
	}
	for _, first := range bad {
		for _, next := range bad {
			expectError(t, "station S;\nbus A;\nx;\n"+first.text+"\n"+next.text, 4+first.at, first.want)
		}
	}
}

// TestDecodeLines gives statements lines of any kind, which are those of the errors.
func TestDecodeLines(t *testing.T) {
	for _, line := range []int{0, -1, 7, 1 << 40} {
		item := statement("bus")
		item.Line = line
		if s, got, e := station.Decode([]api.Item{item}); got != line || e != api.ErrSyntax || dump(s) != dump(api.Station{}) {
			t.Errorf("P5.3: Decode of a statement in line %d = %s, %d, %d", line, dump(s), got, e)
		}
		l := parse(t, "bus A; bay Q coupler 0 1 { ct 1; vt x; }")
		l[1].Kids[1].Line = line
		if s, got, e := station.Decode(l); got != line || e != api.ErrSyntax || dump(s) != dump(api.Station{}) {
			t.Errorf("P5.3: Decode of a block with an error in line %d = %s, %d, %d", line, dump(s), got, e)
		}
		l = parse(t, "bus A; bay Q coupler 0 1 { ct 1; }")
		l[1].Line = line
		if s, got, e := station.Decode(l); got != line || e != api.ErrMissing || dump(s) != dump(api.Station{}) {
			t.Errorf("P5.3: Decode of a bay in line %d = %s, %d, %d", line, dump(s), got, e)
		}
	}
}

func TestDecodeExamples(t *testing.T) {
	const text = "station S; bus A; source G 1000 1 10 2 20; bay Q source G { ct 1; vt 1; travel 2; select A closed; }"
	want := api.Station{
		Name:    "S",
		Buses:   []string{"A"},
		Sources: []api.Source{{Name: "G", Emf: 1000, Z1: ohms(1, 10), Z0: ohms(2, 20)}},
		Bays:    []api.Bay{{Name: "Q", Kind: api.SourceBay, Links: links(closed(0)), Closed: true, Ct: 1, Vt: 1, Travel: 2}},
	}
	expectDiagram(t, text, want)
	expectError(t, strings.Replace(text, "select A", "select B", 1), 1, api.ErrUnknown)
}
