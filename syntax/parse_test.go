package syntax_test

import (
	"strconv"
	"strings"
	"testing"

	"substation/api"
	"substation/syntax"
)

func TestParse(t *testing.T) {
	for s, want := range map[string]string{
		"":                                  "",
		" \t\n":                             "",
		"#":                                 "",
		"# comment":                         "",
		"#\n#\n":                            "",
		"a;":                                "1:a;",
		"a ;":                               "1:a;",
		"\n\n a\n;":                         "3:a;",
		"a;b;\nc;":                          "1:a;1:b;2:c;",
		"a{}":                               "1:a{};",
		"a{}b{}":                            "1:a{};1:b{};",
		"a{b{}c;}":                          "1:a{1:b{};1:c;};",
		"a\nb\n\"c\"\n{\n\n}\nd;":           "1:a,b,\"c\"{};7:d;",
		"a {\n b; c {\n }\n}\n d ;":         "1:a{2:b;2:c{};};5:d;",
		"bus A; bay Q { ct 100; }":          "1:bus,A;1:bay,Q{1:ct,100;};",
		"Z_-+./:09az \"x\";":                "1:Z_-+./:09az,\"x\";",
		"a 1 -1 _ - + . / : 1a;":            "1:a,1,-1,_,-,+,.,/,:,1a;",
		"a \"\";":                           "1:a,\"\";",
		"a \"\" \"\";":                      "1:a,\"\",\"\";",
		"a\t\"b c\"\t\"{};#\";":             "1:a,\"b c\",\"{};#\";",
		"a \" !#~\\'/\";":                   "1:a,\" !#~\\\\'/\";",
		"a \"b\"{}":                         "1:a,\"b\"{};",
		"a \"b\"#c\n;":                      "1:a,\"b\";",
		"a \"b\"\n\"c\"\nd;":                "1:a,\"b\",\"c\",d;",
		"a#b\nc;":                           "1:a,c;",
		"a#b;\n;":                           "1:a;",
		"a;#b":                              "1:a;",
		"a;# b {\n":                         "1:a;",
		"#\x00\x01\r\x7f\x80\xff\"\n\na;":   "3:a;",
		"#\u00e9\u20ac\xf0\n a#\xf0\x9f\n;": "2:a;",
		"a{#}\n}":                           "1:a{};",
		"a{b{c{d{e;}}}}":                    "1:a{1:b{1:c{1:d{1:e;};};};};",
		"a{b{c{d{}}}}":                      "1:a{1:b{1:c{1:d{};};};};",
		"a{b{c{d{e;f 1;}\ng;}}h{}}i;":       "1:a{1:b{1:c{1:d{1:e;1:f,1;};2:g;};};2:h{};};2:i;",
	} {
		expect(t, s, want, 0, api.OK)
	}
}

// TestParseDocument parses the configuration of the document's examples.
func TestParseDocument(t *testing.T) {
	expect(t, "station S; bus A; source G 1000 1 10 2 20; bay Q source G { ct 1; vt 1; travel 2; select A closed; }\n"+
		"relay R source Q { definite 10 2; set D trip time; publish D 1 4; }",
		"1:station,S;1:bus,A;1:source,G,1000,1,10,2,20;1:bay,Q,source,G{1:ct,1;1:vt,1;1:travel,2;1:select,A,closed;};"+
			"2:relay,R,source,Q{2:definite,10,2;2:set,D,trip,time;2:publish,D,1,4;};", 0, api.OK)
}

// failure is a text with the error of its parse.
type failure struct {
	s    string
	line int
	e    api.Errno
}

func expectFailures(t *testing.T, l []failure) {
	t.Helper()
	for _, c := range l {
		expect(t, c.s, "", c.line, c.e)
	}
}

// TestTokenErrors looks at errors while a token is read.
func TestTokenErrors(t *testing.T) {
	long, longest := strings.Repeat("w", 121), strings.Repeat("w", 120)
	expectFailures(t, []failure{
		{"$", 1, api.ErrByte},
		{"a;\n$", 2, api.ErrByte},
		{"a\r\n;", 1, api.ErrByte},
		{"a\n\x00;", 2, api.ErrByte},
		{"\n\na \u00e9;", 3, api.ErrByte},
		{"a \xff;", 1, api.ErrByte},
		{"a \u212a;", 1, api.ErrByte}, // the sign of kelvin, which is k in lower case
		{"a \u0661;", 1, api.ErrByte}, // a digit, but not one of 0 to 9
		{"a \u00a0;", 1, api.ErrByte}, // white space, but none of the three bytes
		{"a'", 1, api.ErrByte},
		{"a$b;", 1, api.ErrByte},
		{"a \"b\"$;", 1, api.ErrByte},
		{"a \"b\nc\";", 1, api.ErrByte},
		{"a\n\"b\tc\";", 2, api.ErrByte},
		{"a \"\x1f\";", 1, api.ErrByte},
		{"a \"\x7f\";", 1, api.ErrByte},
		{"a \"\x80\";", 1, api.ErrByte},
		{"a \"\u00e9\";", 1, api.ErrByte},
		{"a \"" + long + "\x00\";", 1, api.ErrByte},
		{"a \"\n", 1, api.ErrByte},
		{"a \"", 1, api.ErrSyntax},
		{"a \"b", 1, api.ErrSyntax},
		{"a\n\"b;}# ", 2, api.ErrSyntax},
		{"a \"" + long, 1, api.ErrSyntax},
		{"\"", 1, api.ErrSyntax},
		{"a \"b\" \"c", 1, api.ErrSyntax},
		{"a " + long + ";", 1, api.ErrLength},
		{"a\n\"" + long + "\"\n;", 2, api.ErrLength},
		{long + ";", 1, api.ErrLength},
		{"a " + long, 1, api.ErrLength},
		{"a " + long + "\"", 1, api.ErrLength},
		{"a " + long + "$", 1, api.ErrLength},
		{"a \"" + long + "\"b", 1, api.ErrLength},
		{"\n1" + longest, 2, api.ErrLength},
		{"\"" + long + "\";", 1, api.ErrLength},
		{"a b\"\";", 1, api.ErrSyntax},
		{"a b\"", 1, api.ErrSyntax},
		{"a\nb\"c\n\";", 2, api.ErrSyntax},
		{"a\"b\";", 1, api.ErrSyntax},
		{"a \"b\"c;", 1, api.ErrSyntax},
		{"a\n\n\"b\":;", 3, api.ErrSyntax},
		{"a \"b\"-;", 1, api.ErrSyntax},
		{"a \"b\"\"c\";", 1, api.ErrSyntax},
		{"a \"b\"\"", 1, api.ErrSyntax},
		{"a \"\"\"\x00", 1, api.ErrSyntax},
		{"a " + longest + "\"", 1, api.ErrSyntax},
	})
	expect(t, "a "+longest+" \""+longest+"\";", "1:a,"+longest+",\""+longest+"\";", 0, api.OK)
	expect(t, longest+";", "1:"+longest+";", 0, api.OK)
}

// TestStatementErrors looks at errors of tokens that are complete, and at those of the end of the text.
func TestStatementErrors(t *testing.T) {
	expectFailures(t, []failure{
		{"a b", 1, api.ErrSyntax},
		{"\"x\";", 1, api.ErrSyntax},
		{"\"\";", 1, api.ErrSyntax},
		{"a;\n\"x\";", 2, api.ErrSyntax},
		{"1;", 1, api.ErrSyntax},
		{"a;\n-1;", 2, api.ErrSyntax},
		{"_a;", 1, api.ErrSyntax},
		{"a{\n:b;}", 2, api.ErrSyntax},
		{"1$", 1, api.ErrSyntax},
		{"\"x\" $", 1, api.ErrSyntax},
		{";", 1, api.ErrSyntax},
		{"a;\n;", 2, api.ErrSyntax},
		{"a{};", 1, api.ErrSyntax},
		{"a{\n;}", 2, api.ErrSyntax},
		{"{", 1, api.ErrSyntax},
		{"{}", 1, api.ErrSyntax},
		{"a;\n\n{}", 3, api.ErrSyntax},
		{"a{}{}", 1, api.ErrSyntax},
		{"a{{}}", 1, api.ErrSyntax},
		{"}", 1, api.ErrSyntax},
		{"a;\n}", 2, api.ErrSyntax},
		{"a }", 1, api.ErrSyntax},
		{"a{b\n}", 2, api.ErrSyntax},
		{"a{b;}\n}", 2, api.ErrSyntax},
		{"a{}\n}", 2, api.ErrSyntax},
		{"a", 1, api.ErrSyntax},
		{"a\n", 2, api.ErrSyntax},
		{"a\n\n\n", 4, api.ErrSyntax},
		{"a\nb\n# c\n# d", 4, api.ErrSyntax},
		{"a{", 1, api.ErrSyntax},
		{"a{\nb;\n", 3, api.ErrSyntax},
		{"a{b{}\n", 2, api.ErrSyntax},
		{"a{b", 1, api.ErrSyntax},
		{"a{b{c{d{e{", 1, api.ErrDepth},
		{"a{b{c{d{\n\ne{}}}}}", 3, api.ErrDepth},
		{"a{b{c{d{e\n{f;}}}}}", 2, api.ErrDepth},
		{"a{b{c{d{e{$", 1, api.ErrDepth},
		{"a{b{c{d{{", 1, api.ErrSyntax},
		{"a{b{c{d{}e{f{}}}}}", 1, api.ErrDepth},
		{"a{b{c{d{e;}}}}}", 1, api.ErrSyntax},
	})
}

// TestFirstError looks at texts with several errors: the first one decides, whatever its kind.
func TestFirstError(t *testing.T) {
	expectFailures(t, []failure{
		{"a;\n1;\n$", 2, api.ErrSyntax},
		{"a;\n$;\n1;", 2, api.ErrByte},
		{"a }\n$", 1, api.ErrSyntax},
		{"a $ }", 1, api.ErrByte},
		{"a \"\x00\" " + strings.Repeat("w", 121), 1, api.ErrByte},
		{"a " + strings.Repeat("w", 121) + "\n\"\x00\"", 1, api.ErrLength},
		{"a{b{c{d{e{f{$", 1, api.ErrDepth},
		{"a{b{c{d{e$", 1, api.ErrByte},
		{strings.Repeat(" a", 41) + " $", 1, api.ErrCount},
		{strings.Repeat(" a", 40) + " $", 1, api.ErrByte},
		{strings.Repeat(" a", 40) + " a\"", 1, api.ErrSyntax},
		{strings.Repeat(" a", 40) + " \"b\"a", 1, api.ErrSyntax},
		{strings.Repeat(" a", 40) + " " + strings.Repeat("w", 121), 1, api.ErrLength},
		{strings.Repeat("a;", 600) + "$", 1, api.ErrByte},
		{strings.Repeat("a;", 600) + "a$", 1, api.ErrCount},
		{strings.Repeat("a;", 600) + "1", 1, api.ErrSyntax},
		{strings.Repeat("a;", 600) + "\"a\"", 1, api.ErrSyntax},
		{strings.Repeat("a;", 600) + "a\"", 1, api.ErrSyntax},
		{strings.Repeat("a;", 600) + strings.Repeat("w", 121), 1, api.ErrLength},
		{strings.Repeat("a;", 600) + ";", 1, api.ErrSyntax},
		{strings.Repeat("a;", 600) + "}", 1, api.ErrSyntax},
	})
}

// TestEveryByte looks at each byte at each place where it may or may not occur.
func TestEveryByte(t *testing.T) {
	for c := range 256 {
		b := string([]byte{byte(c)})
		line := 1 + strings.Count(b, "\n")
		isPlain := strings.Contains(characters, b)
		switch {
		case isPlain:
			expect(t, "a "+b+";", "1:a,"+b+";", 0, api.OK)
			expect(t, "a"+b+"a;", "1:a"+b+"a;", 0, api.OK)
		case b == " " || b == "\t" || b == "\n":
			expect(t, "a "+b+";", "1:a;", 0, api.OK)
			expect(t, "a"+b+"a;", "1:a,a;", 0, api.OK)
		case b == "#" || b == "\"":
			expect(t, "a "+b+";", "", 1, api.ErrSyntax)
			expect(t, "a"+b+"a;", "", 1, api.ErrSyntax)
		case b == ";":
			expect(t, "a "+b+"b;", "1:a;1:b;", 0, api.OK)
		case b == "{":
			expect(t, "a "+b+"}", "1:a{};", 0, api.OK)
		case b == "}":
			expect(t, "a{"+b, "1:a{};", 0, api.OK)
		default:
			expect(t, "a "+b+";", "", 1, api.ErrByte)
			expect(t, "a"+b+"a;", "", 1, api.ErrByte)
			expect(t, b, "", 1, api.ErrByte)
			expect(t, "a \"b\""+b, "", 1, api.ErrByte)
		}
		switch {
		case strings.Contains(letters, b):
			expect(t, b+";", "1:"+b+";", 0, api.OK)
		case isPlain:
			expect(t, b+";", "", 1, api.ErrSyntax)
		}
		switch {
		case c < 32 || c > 126:
			expect(t, "a \""+b+"\";", "", 1, api.ErrByte)
		case b != "\"":
			expect(t, "a \""+b+"\";", "1:a,"+strconv.Quote(b)+";", 0, api.OK)
		}
		expect(t, "#"+b+"\na;", strconv.Itoa(line+1)+":a;", 0, api.OK)
		expect(t, "a;#"+b, "1:a;", 0, api.OK)
	}
}

// TestParseLimits looks at the longest text, and at the most statements and words.
func TestParseLimits(t *testing.T) {
	for _, s := range []string{strings.Repeat(" ", 12000), "a;" + strings.Repeat("\n", 11998), "a;#" + strings.Repeat("\xff", 11997)} {
		l, line, e := syntax.Parse(s)
		if len(l) > 1 || line != 0 || e != api.OK {
			t.Errorf("P4.1: Parse of 12000 bytes, %.5q.. = %v, %d, %d", s, l, line, e)
		}
		expect(t, s+"\n", "", 0, api.ErrLength)
	}
	expect(t, strings.Repeat("$", 12000), "", 1, api.ErrByte)
	expect(t, strings.Repeat("$", 12001), "", 0, api.ErrLength)
	expect(t, "\n"+strings.Repeat("a", 1<<20), "", 0, api.ErrLength)

	forty := strings.Repeat(",a", 40)[1:]
	expect(t, strings.Repeat("a ", 40)+";", "1:"+forty+";", 0, api.OK)
	expect(t, strings.Repeat("a ", 40)+"{"+strings.Repeat("a ", 40)+"; }", "1:"+forty+"{1:"+forty+";};", 0, api.OK)
	expect(t, strings.Repeat("a ", 40)+"\na;", "", 2, api.ErrCount)
	expect(t, strings.Repeat("a ", 40)+"\"\";", "", 1, api.ErrCount)
	expect(t, "a"+strings.Repeat(" \"\"", 40)+";", "", 1, api.ErrCount)
	expect(t, "a{a "+strings.Repeat("1 ", 40)+"{}}", "", 1, api.ErrCount)

	expect(t, strings.Repeat("a;", 600), strings.Repeat("1:a;", 600), 0, api.OK)
	expect(t, strings.Repeat("a;", 600)+"\na;", "", 2, api.ErrCount)
	expect(t, strings.Repeat("a{}", 600), strings.Repeat("1:a{};", 600), 0, api.OK)
	expect(t, strings.Repeat("a{}", 600)+"\n\na{}", "", 3, api.ErrCount)
	expect(t, strings.Repeat("a{b;}", 300), strings.Repeat("1:a{1:b;};", 300), 0, api.OK)
	expect(t, strings.Repeat("a{b;}", 300)+"c;", "", 1, api.ErrCount)
	expect(t, strings.Repeat("a{b{c{d{e;}}}}", 120), strings.Repeat("1:a{1:b{1:c{1:d{1:e;};};};};", 120), 0, api.OK)
	expect(t, "z;"+strings.Repeat("a{b{c{d{e;}}}}\n", 120), "", 120, api.ErrCount)
	expect(t, "a{"+strings.Repeat("b;", 599)+"}", "1:a{"+strings.Repeat("1:b;", 599)+"};", 0, api.OK)
	expect(t, "a{"+strings.Repeat("b;", 600)+"}", "", 1, api.ErrCount)
}
