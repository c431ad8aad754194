package settings_test

import (
	"fmt"
	"math"
	"slices"
	"strings"
	"testing"

	"substation/api"
	"substation/settings"
)

// heads are the beginnings of statements of relays of each kind.
var heads = []string{"relay R line Q1", "relay R source Q2", "relay R coupler Q3", "relay R bus"}

// headOf returns a relay of each kind as heads say it, without settings.
func headOf(kind int) api.Relay {
	return api.Relay{Name: "R", Kind: kind, Bay: []int{0, 0, 1, 2, -1}[kind]}
}

func TestDecodeSample(t *testing.T) {
	expectRelays(t, sampleText, sample()...)
	expectRelays(t, "")
	for i, head := range heads {
		expectRelays(t, head+" { }", headOf(i+1))
	}
	if l, line, e := settings.Decode(diagram(), nil); len(l) > 0 || line != 0 || e != api.OK {
		t.Errorf("P7.3: Decode of nil = %s, %d, %d", dump(l), line, e)
	}
	l := sample()
	slices.Reverse(l)
	expectRelays(t, write(diagram(), l), l...)
}

// TestDecodeBays reads a relay for each bay of the diagram.
func TestDecodeBays(t *testing.T) {
	words := []string{"", "line", "source", "coupler"}
	for i, b := range diagram().Bays {
		for kind := api.LineRelay; kind <= api.CouplerRelay; kind++ {
			text := "\nrelay R " + words[kind] + " " + b.Name + " {\n}"
			if kind == b.Kind {
				expectRelays(t, text, api.Relay{Name: "R", Kind: kind, Bay: i})
			} else {
				expectError(t, text, 2, api.ErrUnknown)
				// The bay is known: only Check looks at its kind, after the block.
				expectError(t, strings.Replace(text, "R", "1", 1), 2, api.ErrName)
				expectError(t, strings.Replace(text, "\n}", "\nx; }", 1), 3, api.ErrSyntax)
			}
		}
	}
}

// TestDecodeSettings reads single statements in the blocks of all kinds of relays.
func TestDecodeSettings(t *testing.T) {
	for _, c := range []struct {
		text string
		set  func(x *api.Relay)
		// The kinds of relays that may have it; the others have the error.
		kinds string
	}{
		{"zone 1 forward 1 2 3 4; loop 5 0 0;", func(x *api.Relay) { x.Zones[0], x.Min = ahead(1, 2, 3, 4), 5 }, "line"},
		{"zone 2 forward 1 2 3 4; loop 5 6 7;", func(x *api.Relay) { x.Zones[1], x.Min, x.KRe, x.KIm = ahead(1, 2, 3, 4), 5, 6, 7 }, "line"},
		{"zone 3 forward 9 8 7 6; loop 5 -6 -7;", func(x *api.Relay) { x.Zones[2], x.Min, x.KRe, x.KIm = ahead(9, 8, 7, 6), 5, -6, -7 }, "line"},
		{"loop 1 2 3; zone 1 reverse 4 5 6 7;", func(x *api.Relay) { x.Zones[0], x.Min, x.KRe, x.KIm = behind(4, 5, 6, 7), 1, 2, 3 }, "line"},
		{"loop 1 2 3; zone 2 reverse 4 5 6 7;", func(x *api.Relay) { x.Zones[1], x.Min, x.KRe, x.KIm = behind(4, 5, 6, 7), 1, 2, 3 }, "line"},
		{"loop 1 2 3; zone 3 reverse 4 0 0 0;", func(x *api.Relay) { x.Zones[2], x.Min, x.KRe, x.KIm = behind(4, 0, 0, 0), 1, 2, 3 }, "line"},
		{"loop 0 0 0;", func(x *api.Relay) {}, "line source coupler bus"},
		{"zone 2 forward 1 2 3 4; zone 1 forward 5 6 7 8; loop 9 0 0; scheme underreach 0 10;", func(x *api.Relay) {
			x.Zones, x.Min, x.Scheme, x.Guard = [3]api.Reach{ahead(5, 6, 7, 8), ahead(1, 2, 3, 4)}, 9, api.Underreach, 10
		}, "line"},
		{"scheme overreach 0 11; zone 2 forward 1 2 3 4; loop 9 0 0;", func(x *api.Relay) {
			x.Zones[1], x.Min, x.Scheme, x.Guard = ahead(1, 2, 3, 4), 9, api.Overreach, 11
		}, "line"},
		{"scheme blocking 12 0; zone 3 reverse 1 2 3 4; zone 2 forward 5 6 7 8; loop 9 0 0;", func(x *api.Relay) {
			x.Zones, x.Min, x.Scheme, x.Wait = [3]api.Reach{{}, ahead(5, 6, 7, 8), behind(1, 2, 3, 4)}, 9, api.Blocking, 12
		}, "line"},
		{"definite 1 2;", func(x *api.Relay) { x.Definite = on(1, 2) }, "line source coupler"},
		{"inverse 1 2;", func(x *api.Relay) { x.Inverse = curve(1, 2) }, "line source coupler"},
		{"fail 1 2;", func(x *api.Relay) { x.Fail = on(1, 2) }, "line source coupler"},
		{"reclose 1 2 3;", func(x *api.Relay) { x.Shots, x.Dead, x.Reclaim = 1, 2, 3 }, "line"},
		{"reclose 0 0 0;", func(x *api.Relay) {}, "line source coupler bus"},
		{"under 1 2;", func(x *api.Relay) { x.Under = on(1, 2) }, "source"},
		{"over 1 2;", func(x *api.Relay) { x.Over = on(1, 2) }, "source"},
		{"differential 5 1 2 3;", func(x *api.Relay) { x.DiffMin, x.Num, x.Den, x.Harm = 5, 1, 2, 3 }, "bus"},
		{"differential 0 0 0 0;", func(x *api.Relay) {}, "line source coupler bus"},
		{"rule x \"a and b\";", func(x *api.Relay) { x.Rules = []api.Rule{{Name: "x", Text: "a and b"}} }, "line source coupler bus"},
		{"rule x \"\"; rule y \" ;}{# \";", func(x *api.Relay) { x.Rules = []api.Rule{{Name: "x"}, {Name: "y", Text: " ;}{# "}} }, "line source coupler bus"},
		{"set D a;", func(x *api.Relay) { x.Sets = []api.DataSet{{Name: "D", Signals: []string{"a"}}} }, "line source coupler bus"},
		{"set E a b c; set D a;", func(x *api.Relay) {
			x.Sets = []api.DataSet{{Name: "E", Signals: []string{"a", "b", "c"}}, {Name: "D", Signals: []string{"a"}}}
		}, "line source coupler bus"},
		{"publish D 1 2;", func(x *api.Relay) { x.Publish = []api.Publish{{Set: "D", First: 1, Max: 2}} }, "line source coupler bus"},
		{"publish E 3 4; publish D 1 2;", func(x *api.Relay) {
			x.Publish = []api.Publish{{Set: "E", First: 3, Max: 4}, {Set: "D", First: 1, Max: 2}}
		}, "line source coupler bus"},
		{"subscribe a b c d;", func(x *api.Relay) {
			x.Subs = []api.Subscribe{{Local: "a", Device: "b", Set: "c", Signal: "d"}}
		}, "line source coupler bus"},
		{"subscribe z b c d; subscribe a b c d;", func(x *api.Relay) {
			x.Subs = []api.Subscribe{{Local: "z", Device: "b", Set: "c", Signal: "d"}, {Local: "a", Device: "b", Set: "c", Signal: "d"}}
		}, "line source coupler bus"},
		{"subscribe a a a a; set a a a; publish a 1 1; rule a \"a\"; set b a; publish b 1 1; rule b \"a\"; subscribe b b b b;", func(x *api.Relay) {
			x.Rules = []api.Rule{{Name: "a", Text: "a"}, {Name: "b", Text: "a"}}
			x.Sets = []api.DataSet{{Name: "a", Signals: []string{"a", "a"}}, {Name: "b", Signals: []string{"a"}}}
			x.Publish = []api.Publish{{Set: "a", First: 1, Max: 1}, {Set: "b", First: 1, Max: 1}}
			x.Subs = []api.Subscribe{{Local: "a", Device: "a", Set: "a", Signal: "a"}, {Local: "b", Device: "b", Set: "b", Signal: "b"}}
		}, "line source coupler bus"},
	} {
		for i, head := range heads {
			want := headOf(i + 1)
			c.set(&want)
			text := "\n" + head + " {\n" + c.text + "\n}"
			if strings.Contains(" "+c.kinds+" ", " "+[]string{"line", "source", "coupler", "bus"}[i]+" ") {
				expectRelays(t, text, want)
			} else {
				expectError(t, text, 2, api.ErrConflict)
			}
		}
	}
}

// TestDecodeNames reads words of the language where names are.
func TestDecodeNames(t *testing.T) {
	for _, name := range []string{"relay", "line", "source", "coupler", "bus", "zone", "forward", "blocking", "rule", "set", "NAME", "BAY", "TEXT", "N", "S", "true", "not"} {
		for i, head := range heads {
			want := headOf(i + 1)
			want.Name = name
			want.Sets = []api.DataSet{{Name: name, Signals: []string{name, name}}}
			want.Publish = []api.Publish{{Set: name, First: 1, Max: 1}}
			want.Subs = []api.Subscribe{{Local: name, Device: name, Set: name, Signal: name}}
			text := strings.Replace(head, "R", name, 1)
			expectRelays(t, fmt.Sprintf("%[1]s { set %[2]s %[2]s %[2]s; publish %[2]s 1 1; subscribe %[2]s %[2]s %[2]s %[2]s; }", text, name), want)
		}
	}
	// The names of bays may be words of the language too.
	s := diagram()
	for i, name := range []string{"line", "source", "coupler", "bus"} {
		s.Bays[i].Name = name
	}
	mustBeValid(t, s)
	l, line, e := settings.Decode(s, parse(t, "relay A1 line line { } relay A2 source source { } relay A3 coupler coupler { } relay A4 line bus { } relay A5 bus { }"))
	want := []api.Relay{{Name: "A1", Kind: 1, Bay: 0}, {Name: "A2", Kind: 2, Bay: 1}, {Name: "A3", Kind: 3, Bay: 2}, {Name: "A4", Kind: 1, Bay: 3}, {Name: "A5", Kind: 4, Bay: -1}}
	if dump(l) != dump(want) || line != 0 || e != api.OK {
		t.Errorf("P7.3: Decode with bays that have words of the language as names = %s, %d, %d", dump(l), line, e)
	}
}

// TestDecodeIgnored looks at statements of diagrams, which do not matter at depth 0, whatever they contain.
func TestDecodeIgnored(t *testing.T) {
	for _, other := range []string{
		"station S; bus A; source G 1000 1 10 2 20; bay Q source G { ct 1; vt 1; travel 2; select A closed; }",
		"station;", "bus;", "line;", "source;", "bay;", "station S T U;", "bus 1;", "line \"\";", "source { x; y { z { } } }", "bay { zone; }",
		"station { relay R bus { } }", "bus R; line R; source R; bay R { }", "bay Q9 line L 0 { }", "line 1 2 3 4 5 6 7 8 9;",
	} {
		expectRelays(t, other)
		expectRelays(t, other+sampleText+other, sample()...)
		expectRelays(t, strings.ReplaceAll(sampleText, "\nrelay", other+"\nrelay"), sample()...)
	}
	for _, other := range []string{
		"x;", "x { }", "relays;", "Relay R bus { }", "RELAY R bus { }", "stations S;", "Station S;", "BUS A;", "bus1 A;", "lines;", "sources;", "bays;", "bay_1;",
		"coupler;", "zone 1 forward 1 2 3 4;", "loop 1 2 3;", "scheme underreach 0 0;", "definite 1 2;", "inverse 1 2;", "fail 1 2;", "reclose 1 2 3;", "under 1 2;", "over 1 2;", "differential 1 2 3 4;",
		"rule x \"\";", "set D a;", "publish D 1 2;", "subscribe a b c d;", "ct 1;", "vt 1;", "sat 1;", "travel 1;", "select A closed;", "breaker open;",
	} {
		expectError(t, other, 1, api.ErrSyntax)
		expectError(t, "station S;\n"+sampleText+other+"relay;", 2+strings.Count(sampleText, "\n"), api.ErrSyntax)
		expectError(t, "\nbus A;\n"+other+"\n"+sampleText, 3, api.ErrSyntax)
	}
}

// TestDecodeHeads looks at statements that are nearly those of relays.
func TestDecodeHeads(t *testing.T) {
	for _, s := range []string{
		"relay;", "relay { }", "relay R;", "relay R { }", "relay { definite 1 2; }",
		"relay R bus;", "relay bus { }", "relay \"R\" bus { }", "relay R \"bus\" { }", "relay R bus A { }", "relay R bus Q1 { }", "relay R bus 0 { }", "relay R bus -1 { }", "relay R Bus { }", "relay R buses { }", "relay R bus bus { }", "relay R R bus { }", "relay bus R { }",
		"relay R line Q1;", "relay R line { }", "relay line Q1 { }", "relay \"R\" line Q1 { }", "relay R \"line\" Q1 { }", "relay R line \"Q1\" { }", "relay R line Q1 Q1 { }", "relay R line Q1 0 { }", "relay R Line Q1 { }", "relay R line line Q1 { }", "relay R Q1 { }", "relay R Q1 line { }", "relay R line Q1 \"\" { }",
		"relay R source Q2;", "relay R source { }", "relay source Q2 { }", "relay \"R\" source Q2 { }", "relay R \"source\" Q2 { }", "relay R source \"Q2\" { }", "relay R source Q2 Q2 { }", "relay R sources Q2 { }", "relay R SOURCE Q2 { }",
		"relay R coupler Q3;", "relay R coupler { }", "relay coupler Q3 { }", "relay \"R\" coupler Q3 { }", "relay R \"coupler\" Q3 { }", "relay R coupler \"Q3\" { }", "relay R coupler Q3 Q3 { }", "relay R couplers Q3 { }", "relay R coupler. Q3 { }",
		"relay R bay Q1 { }", "relay R relay Q1 { }", "relay R 1 Q1 { }", "relay R station { }",
	} {
		expectError(t, "\n"+s, 2, api.ErrSyntax)
		expectError(t, sampleText+s, 1+strings.Count(sampleText, "\n"), api.ErrSyntax)
		// The form comes before what the block says.
		expectError(t, strings.Replace(s, "{ }", "{\nx; }", 1), 1, api.ErrSyntax)
	}
}

func TestDecodeUnknown(t *testing.T) {
	for _, bay := range []string{"Q8", "q1", "Q", "Q11", "L", "M", "G", "H", "A", "B", "S", "R", "R1", "line", "0", "1", "-1", "Q1.", "1Q", "_"} {
		for _, kind := range []string{"line", "source", "coupler"} {
			expectError(t, "\nrelay R "+kind+" "+bay+" {\n}", 2, api.ErrUnknown)
			// An unknown bay comes before the errors of the block, and those of the relay.
			expectError(t, "\nrelay R "+kind+" "+bay+" {\nx; }", 2, api.ErrUnknown)
			expectError(t, "\nrelay 1 "+kind+" "+bay+" {\nloop 1 2 3; }", 2, api.ErrUnknown)
			expectError(t, "\nrelay R "+kind+" "+bay+";", 2, api.ErrSyntax)
		}
	}
	s := diagram()
	s.Bays = nil
	if l, line, e := settings.Decode(s, parse(t, "\nrelay R line Q1 { }")); len(l) > 0 || line != 2 || e != api.ErrUnknown {
		t.Errorf("P7.3: Decode without bays = %s, %d, %d", dump(l), line, e)
	}
}

// blockForms are statements in blocks, and what stands for their words: n for a number, w for a plain word, q for a quoted word, and . for a word of the language.
var blockForms = []struct{ text, words string }{
	{"zone 1 forward 2 3 4 5", "...nnnn"},
	{"zone 2 forward 2 3 4 5", "...nnnn"},
	{"zone 3 forward 2 3 4 5", "...nnnn"},
	{"zone 1 reverse 2 3 4 5", "...nnnn"},
	{"zone 2 reverse 2 3 4 5", "...nnnn"},
	{"zone 3 reverse 2 3 4 5", "...nnnn"},
	{"loop 1 2 3", ".nnn"},
	{"scheme underreach 0 1", "..nn"},
	{"scheme overreach 0 1", "..nn"},
	{"scheme blocking 1 1", "..nn"},
	{"definite 1 2", ".nn"},
	{"inverse 1 2", ".nn"},
	{"fail 1 2", ".nn"},
	{"reclose 1 2 3", ".nnn"},
	{"under 1 2", ".nn"},
	{"over 1 2", ".nn"},
	{"differential 4 1 2 3", ".nnnn"},
	{"rule x \"y\"", ".wq"},
	{"set D", ".w"},
	{"set D x", ".ww"},
	{"set D x y", ".www"},
	{"publish D 1 2", ".wnn"},
	{"subscribe a b c d", ".wwww"},
}

// notNumbers are words that are not numbers.
var notNumbers = []string{"x", "N", "NAME", "-", "+1", "1.0", "01", "00", "-0", "-01", "--1", "1-", "12345678", "-12345678", "0x1", "1e1", "1_0", "1/1", "\"1\"", "\"\""}

// TestDecodeBlockForms changes words of the statements in blocks, so that they have no form any more.
func TestDecodeBlockForms(t *testing.T) {
	for _, head := range heads {
		bad := func(words ...string) {
			t.Helper()
			s := strings.Join(words, " ")
			if !strings.HasSuffix(s, "}") {
				s += ";"
			}
			expectError(t, head+" {\n"+s+"}", 2, api.ErrSyntax)
			expectError(t, head+" {\nset D trip;\nrule v \"\"; publish D 1 4;\n\n"+s+"loop; }", 5, api.ErrSyntax)
		}
		for _, c := range blockForms {
			words := strings.Fields(c.text)
			bad(append(words, "{ }")...)
			bad(append(words, "{ x; }")...)
			bad(append(words, "\"\"")...)
			if words[0] != "set" {
				bad(append(words, "x")...)
				bad(append(words, "1")...)
			}
			for i, kind := range c.words {
				with := func(w string) []string {
					l := slices.Clone(words)
					l[i] = w
					return l
				}
				if i > 0 && (words[0] != "set" || i == 1 && len(words) == 2) {
					bad(slices.Delete(slices.Clone(words), i, i+1)...)
				}
				switch kind {
				case 'n':
					for _, w := range notNumbers {
						bad(with(w)...)
					}
				case 'w':
					bad(with("\"" + words[i] + "\"")...)
				case 'q':
					bad(with("y")...)
				default:
					if i > 0 {
						for _, w := range []string{"\"" + words[i] + "\"", words[i] + "s", strings.ToUpper(words[i]) + "_", "x", "0", "4", "-1", "01", "closed"} {
							bad(with(w)...)
						}
					}
				}
			}
		}
		for _, s := range []string{
			"x", "x { }", "zone", "zone 1", "zone forward 1 2 3 4", "zone forward 1 1 2 3 4", "zone 4 forward 1 2 3 4", "zone 0 forward 1 2 3 4", "zone -1 forward 1 2 3 4", "zone 1 forward 1 2 3", "zone 1 Forward 1 2 3 4", "zone 1 backward 1 2 3 4", "zone 1 1 2 3 4", "zone 1 1 2 3 4 5", "zones 1 forward 1 2 3 4", "Zone 1 forward 1 2 3 4", "zone1 forward 1 2 3 4",
			"loop", "loops 1 2 3", "min 1", "scheme", "scheme 1 2", "scheme none 0 0", "scheme blocked 1 1", "scheme Blocking 1 1", "scheme 3 1 1", "definite", "definite on 1 2", "inverse", "fail", "failure 1 2", "reclose", "recloser 1 2 3", "under", "over", "differential", "diff 1 1 1 1",
			"rule", "rule x", "rule \"x\"", "rule \"x\" \"y\"", "rule x y \"z\"", "rule x \"y\" \"z\"", "rule x y", "set", "sets D x", "publish", "publish 1 2", "publish D", "subscribe", "subscribe a", "subscribe a b", "subscribe a b c", "subscribe a b c d e", "subscribes a b c d",
			"relay R bus", "relay R2 bus { }", "station S", "bus C", "line N 1 2 3 4", "source I 1 1 1 1 1", "bay Q line L 0 { }", "bay", "ct 1", "vt 1", "sat 1", "travel 1", "select A closed", "breaker open", "forward", "blocking 1 1", "underreach 0 0", "DEFINITE 1 2", "Rule x \"\"",
		} {
			bad(s)
		}
	}
}

// TestDecodeDuplicates repeats statements in blocks.
func TestDecodeDuplicates(t *testing.T) {
	for _, head := range heads {
		for _, first := range blockForms {
			for _, next := range blockForms {
				word := strings.Fields(first.text)[0]
				twice := word == strings.Fields(next.text)[0]
				if word == "zone" && twice {
					twice = first.text[:6] == next.text[:6]
				}
				text := head + " {\n" + first.text + ";\nset E y;\n" + next.text + ";\nx; }"
				if twice && !slices.Contains([]string{"rule", "set", "publish", "subscribe"}, word) {
					expectError(t, text, 4, api.ErrDuplicate)
					expectError(t, strings.Replace(text, "set E y", "x", 1), 3, api.ErrSyntax)
					expectError(t, strings.Replace(text, next.text+";\nx", next.text+" x", 1), 4, api.ErrSyntax)
				} else {
					expectError(t, text, 5, api.ErrSyntax)
				}
			}
		}
	}
	// Other values of the same statement are a duplicate too, and each relay has a block of its own.
	expectError(t, "relay R bus {\nloop 0 0 0;\nloop 1 2 3; }", 3, api.ErrDuplicate)
	expectError(t, "relay R bus {\nzone 3 forward 1 2 3 4;\nzone 2 forward 1 2 3 4;\nzone 1 forward 1 2 3 4;\nzone 3 reverse 5 6 7 8; }", 5, api.ErrDuplicate)
	definite := headOf(api.LineRelay)
	definite.Definite = on(1, 2)
	other := definite
	other.Name, other.Bay = "O", 6
	expectRelays(t, "relay R line Q1 { definite 1 2; } relay O line Q7 { definite 1 2; }", definite, other)
	// What may occur often is checked with the relay.
	expectError(t, "\nrelay R bus {\nrule x \"\";\nrule x \"\"; }", 2, api.ErrDuplicate)
	expectError(t, "\nrelay R bus {\nset D x;\nset D y; }", 2, api.ErrDuplicate)
	expectError(t, "\nrelay R bus {\npublish D 1 2;\npublish D 1 2; }", 2, api.ErrDuplicate)
	expectError(t, "\nrelay R bus {\nsubscribe a b c d;\nsubscribe a b c d; }", 2, api.ErrDuplicate)
}

// TestDecodeChecks looks at the errors of relays, which have the line of the statement of the relay.
func TestDecodeChecks(t *testing.T) {
	const before = "\n\nrelay R1 line Q1 { }\nrelay R2 source Q2 {\n}\nrelay R4 bus { }\n"
	for s, want := range map[string]api.Errno{
		"relay R1 line Q4 {\n}":                                             api.ErrDuplicate,
		"relay R2 line Q4 {\n}":                                             api.ErrDuplicate,
		"relay A line Q4 {\n}":                                              api.ErrDuplicate,
		"relay L line Q4 {\n}":                                              api.ErrDuplicate,
		"relay G line Q4 {\n}":                                              api.ErrDuplicate,
		"relay Q7 line Q4 {\n}":                                             api.ErrDuplicate,
		"relay 1 line Q4 {\n}":                                              api.ErrName,
		"relay R. line Q4 {\n}":                                             api.ErrName,
		"relay R345678901234 line Q4 {\n}":                                  api.ErrName,
		"relay R3 line Q1 {\n}":                                             api.ErrConflict,
		"relay R3 source Q2 {\n}":                                           api.ErrConflict,
		"relay R3 bus {\n}":                                                 api.ErrConflict,
		"relay R3 line Q2 {\n}":                                             api.ErrUnknown,
		"relay R3 source Q1 {\n}":                                           api.ErrUnknown,
		"relay R3 coupler Q1 {\n}":                                          api.ErrUnknown,
		"relay R3 line Q4 {\nunder 1 2; }":                                  api.ErrConflict,
		"relay R3 source Q5 {\nloop 1 0 0; }":                               api.ErrConflict,
		"relay R3 line Q4 {\nloop 1 0 0; }":                                 api.ErrRange,
		"relay R3 line Q4 {\nzone 1 forward 0 1 1 1; loop 1 0 0; }":         api.ErrRange,
		"relay R3 line Q4 {\nzone 1 forward 1 1 1 1; }":                     api.ErrRange,
		"relay R3 line Q4 {\nscheme overreach 0 5; }":                       api.ErrMissing,
		"relay R3 line Q4 {\nscheme overreach 1 5; }":                       api.ErrRange,
		"relay R3 line Q4 {\nscheme blocking 0 5; }":                        api.ErrRange,
		"relay R3 line Q4 {\ndefinite 0 2; }":                               api.ErrRange,
		"relay R3 line Q4 {\ndefinite 0 0; }":                               api.ErrRange,
		"relay R3 coupler Q3 {\nfail 1 0; }":                                api.ErrRange,
		"relay R3 line Q4 {\ninverse 1 0; }":                                api.ErrRange,
		"relay R3 source Q5 {\nover 1 -1; }":                                api.ErrRange,
		"relay R3 source Q5 {\nunder 16384 1; }":                            api.ErrRange,
		"relay R3 line Q4 {\nreclose 0 1 0; }":                              api.ErrRange,
		"relay R3 line Q4 {\nset D; }":                                      api.ErrCount,
		"relay R3 line Q4 {\nset D x; set E;\nset F 1; }":                   api.ErrCount,
		"relay R3 line Q4 {\nset D " + strings.Repeat("x ", 25) + "; }":     api.ErrCount,
		"relay R3 line Q4 {\nset D " + strings.Repeat("x ", 38) + "; }":     api.ErrCount,
		"relay R3 line Q4 {\n" + strings.Repeat("rule 1 \"\";\n", 17) + "}": api.ErrCount,
		"relay R3 line Q4 {\nrule not \"\"; }":                              api.ErrName,
		"relay R3 line Q4 {\nrule 1 \"\"; }":                                api.ErrName,
		"relay R3 line Q4 {\nset 1 x; }":                                    api.ErrName,
		"relay R3 line Q4 {\nset D 1; }":                                    api.ErrName,
		"relay R3 line Q4 {\npublish D. 1 1; }":                             api.ErrName,
		"relay R3 line Q4 {\npublish D 0 1; }":                              api.ErrRange,
		"relay R3 line Q4 {\npublish D 2 1; }":                              api.ErrRange,
		"relay R3 line Q4 {\nsubscribe a b c 1; }":                          api.ErrName,
	} {
		expectError(t, before+s+"\nx;", 7, want)
	}
	expectRelays(t, "relay R line Q1 { set D "+strings.Repeat("x ", 24)+"; }", api.Relay{Name: "R", Kind: api.LineRelay, Sets: []api.DataSet{{Name: "D", Signals: slices.Repeat([]string{"x"}, 24)}}})
}

// TestDecodeNumbers reads every number of sample at its limits, and beyond.
func TestDecodeNumbers(t *testing.T) {
	for _, c := range allNumbers() {
		for _, n := range []int{c.low - 1, c.low, c.high, c.high + 1} {
			l := sample()
			*c.at(&l[c.relay]) = n
			text := write(diagram(), l)
			if c.low <= n && n <= c.high {
				expectRelays(t, text, l...)
				continue
			}
			if n == 0 && (strings.HasSuffix(c.what, " Min") || strings.HasSuffix(c.what, "Shots") || strings.HasSuffix(c.what, "DiffMin")) {
				// Their statements are not written then.
				continue
			}
			name := l[c.relay].Name
			line := 1 + strings.Count(text[:strings.Index(text, "relay "+name)], "\n")
			expectError(t, text, line, api.ErrRange)
		}
	}
	expectError(t, "relay R line Q1 { zone 1 forward 1 1 1 1; loop 0 1 1; }", 1, api.ErrRange)
	expectError(t, "relay R line Q1 { reclose 0 25 250; }", 1, api.ErrRange)
	expectError(t, "relay R bus { differential 0 1 2 20; }", 1, api.ErrRange)
}

// TestDecodeFirstError looks at texts with errors in several statements: the first one decides, whatever the kinds of its statement and its error.
func TestDecodeFirstError(t *testing.T) {
	bad := []struct {
		text string
		at   int
		want api.Errno
	}{
		{"x;", 0, api.ErrSyntax},
		{"relay R line Q9 { x; }", 0, api.ErrUnknown},
		{"relay R bus {\nloop; }", 1, api.ErrSyntax},
		{"relay R bus {\nloop 0 0 0;\nloop 0 0 0; x; }", 2, api.ErrDuplicate},
		{"relay R bus {\nloop 1 0 0; }", 0, api.ErrConflict},
		{"relay 1 bus {\nloop 1 0 0; }", 0, api.ErrName},
		{"relay A bus {\n}", 0, api.ErrDuplicate},
		{"relay R line Q2 {\n}", 0, api.ErrUnknown},
		{"relay R line Q1 {\nfail 1 0; }", 0, api.ErrRange},
		{"relay R line Q1 {\nscheme overreach 0 0; }", 0, api.ErrMissing},
		{"relay R line Q1 {\nset D; }", 0, api.ErrCount},
	}
	for _, first := range bad {
		for _, next := range bad {
			expectError(t, "station S;\nrelay V line Q4 { }\n"+first.text+"\n"+next.text, 3+first.at, first.want)
		}
	}
}

// TestDecodeLines gives statements lines of any kind, which are those of the errors.
func TestDecodeLines(t *testing.T) {
	for _, line := range []int{0, -1, 7, 1 << 40, math.MinInt, math.MaxInt} {
		for i, c := range []struct {
			text string
			at   func(l []api.Item) *int
			want api.Errno
		}{
			{"relay;", func(l []api.Item) *int { return &l[0].Line }, api.ErrSyntax},
			{"relay R line X { }", func(l []api.Item) *int { return &l[0].Line }, api.ErrUnknown},
			{"relay R bus { set D x; x; }", func(l []api.Item) *int { return &l[0].Kids[1].Line }, api.ErrSyntax},
			{"relay R bus { fail 1 2; fail 1 2; }", func(l []api.Item) *int { return &l[0].Kids[1].Line }, api.ErrDuplicate},
			{"relay R bus { fail 1 2; rule x \"\"; }", func(l []api.Item) *int { return &l[0].Line }, api.ErrConflict},
		} {
			l := parse(t, c.text)
			*c.at(l) = line
			if got, at, e := settings.Decode(diagram(), l); len(got) > 0 || at != line || e != c.want {
				t.Errorf("P7.3: Decode of case %d with line %d = %s, %d, %d", i, line, dump(got), at, e)
			}
		}
	}
}

func TestDecodeExamples(t *testing.T) {
	expectRelays(t, "relay R bus { differential 10 1 2 20; }", api.Relay{Name: "R", Kind: api.BusRelay, Bay: -1, DiffMin: 10, Num: 1, Den: 2, Harm: 20})
	expectError(t, "relay R line Q1 { scheme overreach 0 5; }", 1, api.ErrMissing)
	expectError(t, "relay R line Q1 { zone 2 reverse 1 1 1 1; loop 1 0 0; scheme overreach 0 5; }", 1, api.ErrMissing)
	expectError(t, "relay R line Q1 { zone 1 forward 1 1 1 1; zone 3 forward 1 1 1 1; loop 1 0 0; scheme overreach 0 5; }", 1, api.ErrMissing)
	want := headOf(api.LineRelay)
	want.Zones[1], want.Min, want.Scheme, want.Guard = ahead(1, 1, 1, 1), 1, api.Overreach, 5
	expectRelays(t, "relay R line Q1 { zone 2 forward 1 1 1 1; loop 1 0 0; scheme overreach 0 5; }", want)
	// The second example of DOC.md.
	want = headOf(api.SourceRelay)
	want.Definite, want.Sets, want.Publish = on(10, 2), []api.DataSet{{Name: "D", Signals: []string{"trip", "time"}}}, []api.Publish{{Set: "D", First: 1, Max: 4}}
	expectRelays(t, "relay R source Q2 { definite 10 2; set D trip time; publish D 1 4; }", want)
}
