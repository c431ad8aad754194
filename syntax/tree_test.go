package syntax_test

import (
	"math"
	"strings"
	"testing"

	"substation/api"
	"substation/syntax"
)

// with returns a statement with the words a and w.
func with(w api.Word) api.Item { return api.Item{Words: []api.Word{plain("a"), w}} }

// conflicting returns a statement with a statement in the block that it does not have.
func conflicting(words string) api.Item {
	item := block(words, statement("k"))
	item.Block = false
	return item
}

func TestCheck(t *testing.T) {
	long, longest := strings.Repeat("w", 121), strings.Repeat("w", 120)
	first := func(w api.Word) api.Item { return api.Item{Words: []api.Word{w}} }
	for name, c := range map[string]struct {
		l    []api.Item
		want api.Errno
	}{
		"nothing":                        {nil, api.OK},
		"an empty list":                  {[]api.Item{}, api.OK},
		"a word":                         {[]api.Item{statement("a")}, api.OK},
		"words":                          {[]api.Item{statement("Z_-+./:09az 1 - :")}, api.OK},
		"no words":                       {[]api.Item{{}}, api.ErrSyntax},
		"an empty list of words":         {[]api.Item{{Words: []api.Word{}, Block: true}}, api.ErrSyntax},
		"a first word with a digit":      {[]api.Item{statement("1a")}, api.ErrSyntax},
		"a first word with a sign":       {[]api.Item{statement("_a")}, api.ErrSyntax},
		"a first word, quoted":           {[]api.Item{first(quoted("a"))}, api.ErrSyntax},
		"a first word, empty":            {[]api.Item{first(plain(""))}, api.ErrSyntax},
		"a first word that is not plain": {[]api.Item{first(plain("a b"))}, api.ErrSyntax},
		"a first word, not ASCII":        {[]api.Item{first(plain("\u00e9"))}, api.ErrSyntax},
		"a first word of 120 bytes":      {[]api.Item{statement(longest)}, api.OK},
		"a first word of 121 bytes":      {[]api.Item{statement(long)}, api.ErrLength},
		"a plain word, empty":            {[]api.Item{with(plain(""))}, api.ErrSyntax},
		"a plain word with a blank":      {[]api.Item{with(plain("a b"))}, api.ErrSyntax},
		"a plain word with a quote":      {[]api.Item{with(plain("\"b\""))}, api.ErrSyntax},
		"a plain word with a brace":      {[]api.Item{with(plain("{"))}, api.ErrSyntax},
		"a plain word, not ASCII":        {[]api.Item{with(plain("a\u212a"))}, api.ErrSyntax},
		"a plain word, not UTF-8":        {[]api.Item{with(plain("a\xff"))}, api.ErrSyntax},
		"a plain word of 120 bytes":      {[]api.Item{with(plain(longest))}, api.OK},
		"a plain word of 121 bytes":      {[]api.Item{with(plain(long))}, api.ErrLength},
		"121 bytes, not plain":           {[]api.Item{with(plain(strings.Repeat("$", 121)))}, api.ErrLength},
		"120 bytes, not plain":           {[]api.Item{with(plain(strings.Repeat("$", 120)))}, api.ErrSyntax},
		"a quoted word, empty":           {[]api.Item{with(quoted(""))}, api.OK},
		"a quoted word":                  {[]api.Item{with(quoted(" a;{}#!~'\\"))}, api.OK},
		"a quoted word with a quote":     {[]api.Item{with(quoted("a\"b"))}, api.ErrByte},
		"a quoted word of 120 bytes":     {[]api.Item{with(quoted(longest))}, api.OK},
		"a quoted word of 121 bytes":     {[]api.Item{with(quoted(long))}, api.ErrLength},
		"121 quotes":                     {[]api.Item{with(quoted(strings.Repeat("\"", 121)))}, api.ErrLength},
		"120 quotes":                     {[]api.Item{with(quoted(strings.Repeat("\"", 120)))}, api.ErrByte},
		"a quoted word with é":           {[]api.Item{with(quoted("\u00e9"))}, api.ErrByte},
		"61 times é in a quoted word":    {[]api.Item{with(quoted(strings.Repeat("\u00e9", 61)))}, api.ErrLength},
		"a quoted word, not UTF-8":       {[]api.Item{with(quoted("\x80"))}, api.ErrByte},
		"U+FFFD in a quoted word":        {[]api.Item{with(quoted("\ufffd"))}, api.ErrByte},
		"40 words":                       {[]api.Item{statement(strings.Repeat("a ", 40))}, api.OK},
		"41 words":                       {[]api.Item{statement(strings.Repeat("a ", 41))}, api.ErrCount},
		"a block":                        {[]api.Item{block("a", statement("b"))}, api.OK},
		"an empty block":                 {[]api.Item{block("a")}, api.OK},
		"a block, empty, not nil":        {[]api.Item{{Words: statement("a").Words, Block: true, Kids: []api.Item{}}}, api.OK},
		"an empty list without a block":  {[]api.Item{{Words: statement("a").Words, Kids: []api.Item{}}}, api.OK},
		"statements without a block":     {[]api.Item{conflicting("a")}, api.ErrConflict},
		"a negative line":                {[]api.Item{{Line: math.MinInt, Words: statement("a").Words}}, api.OK},
		"lines in no order":              {[]api.Item{{Line: 9, Words: statement("a").Words}, {Line: 2, Words: statement("a").Words}}, api.OK},
		"depth 4":                        {chain(4, statement("a")), api.OK},
		"depth 5":                        {chain(5, statement("a")), api.ErrDepth},
		"depth 5000":                     {chain(5000, statement("a")), api.ErrDepth},
		"an empty block at depth 3":      {chain(3, block("a")), api.OK},
		"600 statements":                 {times(600, statement("a")), api.OK},
		"601 statements":                 {times(601, statement("a")), api.ErrCount},
		"600 statements, some in blocks": {times(120, chain(4, statement("a"))[0]), api.OK},
		"601 statements, some in blocks": {append(times(120, chain(4, statement("a"))[0]), statement("a")), api.ErrCount},
		"600 statements in a block":      {[]api.Item{block("a", times(600, statement("a"))...)}, api.ErrCount},
		"599 statements in a block":      {[]api.Item{block("a", times(599, statement("a"))...)}, api.OK},
	} {
		if e := syntax.Check(c.l); e != c.want {
			t.Errorf("P4.2: Check of %s = %d, not %d", name, e, c.want)
		}
		if s := syntax.Format(c.l); c.want != api.OK && s != "" {
			t.Errorf("P4.2: Format of %s = %s", name, brief(s))
		}
	}
}

// TestCheckEveryByte looks at each byte in plain and in quoted words.
func TestCheckEveryByte(t *testing.T) {
	for c := range 256 {
		b := string([]byte{byte(c)})
		for _, text := range []string{b, "a" + b, b + "a"} {
			want := api.OK
			if !strings.Contains(characters, b) {
				want = api.ErrSyntax
			}
			if e := syntax.Check([]api.Item{with(plain(text))}); e != want {
				t.Errorf("P4.2: Check of the plain word %q = %d", text, e)
			}
			want = api.OK
			if c < 32 || c > 126 || c == '"' {
				want = api.ErrByte
			}
			if e := syntax.Check([]api.Item{with(quoted(text))}); e != want {
				t.Errorf("P4.2: Check of the quoted word %q = %d", text, e)
			}
		}
		want := api.OK
		if !strings.Contains(letters, b) {
			want = api.ErrSyntax
		}
		if e := syntax.Check([]api.Item{{Words: []api.Word{plain(b)}}}); e != want {
			t.Errorf("P4.2: Check of the first word %q = %d", b, e)
		}
	}
}

// TestCheckOrder looks at trees with several errors. Each error comes before those that follow it in the list of the chapter, and each statement before those behind it and in its block.
func TestCheckOrder(t *testing.T) {
	long := strings.Repeat("w", 121)
	bad := statement("1")
	words := func(l ...api.Word) api.Item { return api.Item{Words: append([]api.Word{plain("a")}, l...)} }
	many := strings.Repeat(" "+long, 40)
	for name, c := range map[string]struct {
		l    []api.Item
		want api.Errno
	}{
		"the 600th, at depth 5":               {append(times(594, statement("a")), chain(5, statement("a"))...), api.ErrDepth},
		"the 601st, at depth 5":               {append(times(595, statement("a")), chain(5, statement("a"))...), api.ErrCount},
		"the 601st, before depth 5":           {append(times(596, statement("a")), chain(5, statement("a"))...), api.ErrCount},
		"the 601st, without words":            {append(times(600, statement("a")), api.Item{}), api.ErrCount},
		"an error before the 601st":           {append(append(times(599, statement("a")), with(plain(long))), statement("a")), api.ErrLength},
		"an error before the 601st, in it":    {[]api.Item{block("a", append(append(times(598, statement("a")), bad), statement("a"))...)}, api.ErrSyntax},
		"depth 5, without words":              {chain(5, api.Item{}), api.ErrDepth},
		"depth 5, before a bad one at 4":      {[]api.Item{chain(5, statement("a"))[0], bad}, api.ErrDepth},
		"a bad one before depth 5":            {[]api.Item{bad, chain(5, statement("a"))[0]}, api.ErrSyntax},
		"a bad one above depth 5":             {chain(4, block("a 1 2 3 $", statement("a"))), api.ErrSyntax},
		"a bad first word, 41 words":          {[]api.Item{statement("1" + strings.Repeat(" a", 40))}, api.ErrSyntax},
		"a bad first word of 121 bytes":       {[]api.Item{statement("1" + long)}, api.ErrSyntax},
		"a long first word, not plain":        {[]api.Item{{Words: []api.Word{plain(long + "$")}}}, api.ErrLength},
		"41 words, all of them long":          {[]api.Item{statement("a" + many)}, api.ErrCount},
		"40 words, all of them long":          {[]api.Item{statement("a" + many[:39*122])}, api.ErrLength},
		"a long word, a bad byte":             {[]api.Item{words(plain(long), quoted("\x00"))}, api.ErrLength},
		"a bad byte, a long word":             {[]api.Item{words(quoted("\x00"), plain(long))}, api.ErrByte},
		"not plain, a bad byte":               {[]api.Item{words(plain(""), quoted("\x00"))}, api.ErrSyntax},
		"a bad byte, not plain":               {[]api.Item{words(quoted("\x00"), plain(""))}, api.ErrByte},
		"a bad byte in a long word":           {[]api.Item{words(quoted(long + "\x00"))}, api.ErrLength},
		"a bad word, statements in no block":  {[]api.Item{conflicting("a $")}, api.ErrSyntax},
		"a bad statement in no block":         {[]api.Item{{Words: statement("a").Words, Kids: []api.Item{bad}}}, api.ErrConflict},
		"the error of a statement, its block": {[]api.Item{block("a $", with(plain(long)))}, api.ErrSyntax},
		"the error in a block, the next":      {[]api.Item{block("a", with(plain(long))), bad}, api.ErrLength},
		"two statements with errors":          {[]api.Item{with(quoted("\"")), conflicting("a")}, api.ErrByte},
		"the same, the other way round":       {[]api.Item{conflicting("a"), with(quoted("\""))}, api.ErrConflict},
		"statements in no block at depth 4":   {chain(4, conflicting("a")), api.ErrConflict},
	} {
		if e := syntax.Check(c.l); e != c.want {
			t.Errorf("P4.2, P5: Check of %s = %d, not %d", name, e, c.want)
		}
	}
}

func TestFormat(t *testing.T) {
	longest := strings.Repeat("w", 120)
	for _, c := range []struct {
		l    []api.Item
		want string
	}{
		{nil, ""},
		{[]api.Item{}, ""},
		{[]api.Item{statement("a")}, "a;\n"},
		{[]api.Item{statement("bus A"), statement("b 1 -1 :")}, "bus A;\nb 1 -1 :;\n"},
		{[]api.Item{with(quoted(""))}, "a \"\";\n"},
		{[]api.Item{with(quoted(" b \\ # ; "))}, "a \" b \\ # ; \";\n"},
		{[]api.Item{block("a")}, "a {\n}\n"},
		{[]api.Item{block("a b", statement("c d")), statement("e")}, "a b {\n  c d;\n}\ne;\n"},
		{[]api.Item{block("a", block("b"), block("c", statement("d")), statement("e"))}, "a {\n  b {\n  }\n  c {\n    d;\n  }\n  e;\n}\n"},
		{chain(4, statement("b c")), "a {\n  a {\n    a {\n      a {\n        b c;\n      }\n    }\n  }\n}\n"},
		{[]api.Item{{Line: 7, Words: []api.Word{plain("a"), quoted("b"), plain("c")}, Block: true, Kids: []api.Item{}}}, "a \"b\" c {\n}\n"},
		{[]api.Item{{Line: -7, Words: statement("a").Words, Kids: []api.Item{}}}, "a;\n"},
		{times(600, statement(longest+" "+longest)), strings.Repeat(longest+" "+longest+";\n", 600)},
	} {
		if s := syntax.Format(c.l); s != c.want {
			t.Errorf("P4.2: Format of %s = %s, not %s", brief(dump(c.l)), brief(s), brief(c.want))
		}
	}
}

// different returns lists no two of which are the same.
func different() [][]api.Item {
	deep := func(item api.Item) []api.Item { return chain(7, item) }
	return [][]api.Item{
		{},
		{{}},
		{{}, {}},
		{{Block: true}},
		{{Kids: []api.Item{{}}}},
		{{Kids: []api.Item{{}}, Block: true}},
		{{Kids: []api.Item{{}, {}}, Block: true}},
		{{Words: []api.Word{{}}}},
		{{Words: []api.Word{{}, {}}}},
		{{Words: []api.Word{quoted("")}}},
		{statement("a")},
		{{Words: []api.Word{quoted("a")}}},
		{statement("A")},
		{statement("a b")},
		{statement("b a")},
		{{Words: []api.Word{plain("a b")}}},
		{statement("a"), statement("b")},
		{statement("b"), statement("a")},
		{statement("a"), statement("b"), statement("c")},
		{block("a")},
		{block("a", statement("b"))},
		{block("a", statement("b"), statement("c"))},
		{block("a"), statement("b")},
		{conflicting("a")},
		deep(statement("b")),
		deep(statement("c")),
		deep(block("b")),
		deep(block("b", statement("c"))),
		{with(plain("\xff"))},
		{with(plain("\ufffd"))},
		{with(plain(strings.Repeat("w", 200)))},
	}
}

func TestSame(t *testing.T) {
	l := different()
	for i, a := range l {
		for k, b := range l {
			if got := syntax.Same(a, clone(b)); got != (i == k) {
				t.Errorf("P4.2: Same(%s, %s) = %v", brief(dump(a)), brief(dump(b)), got)
			}
		}
		lines := clone(a)
		number(lines, 3)
		if !syntax.Same(a, lines) || !syntax.Same(lines, a) {
			t.Errorf("P4.2: Same(%s, %s) = false", brief(dump(a)), brief(dump(lines)))
		}
	}
	for _, c := range [][2][]api.Item{
		{nil, {}},
		{{{}}, {{Words: []api.Word{}, Kids: []api.Item{}}}},
		{{block("a")}, {{Words: statement("a").Words, Block: true, Kids: []api.Item{}}}},
	} {
		if !syntax.Same(c[0], c[1]) || !syntax.Same(c[1], c[0]) || !syntax.Same(c[0], c[0]) {
			t.Errorf("P4.2: %s is not the same with lists that are nil and with empty ones", dump(c[0]))
		}
	}
}

// number gives all statements different lines.
func number(l []api.Item, line int) {
	for i := range l {
		l[i].Line = line
		number(l[i].Kids, 7*line-20)
		line += 3
	}
}

func TestCount(t *testing.T) {
	for _, c := range []struct {
		l    []api.Item
		want int
	}{
		{nil, 0},
		{[]api.Item{}, 0},
		{[]api.Item{{}}, 1},
		{[]api.Item{block("a")}, 1},
		{[]api.Item{statement("a b c"), statement("d")}, 2},
		{[]api.Item{block("a", statement("b"), block("c", statement("d"))), statement("e")}, 5},
		{[]api.Item{conflicting("a"), {Kids: []api.Item{{}, {}}}}, 5},
		{times(120, chain(4, statement("a"))[0]), 600},
		{times(1000, chain(20, statement("a"))[0]), 21000},
	} {
		if n := syntax.Count(c.l); n != c.want {
			t.Errorf("P4.2: Count of %s = %d, not %d", brief(dump(c.l)), n, c.want)
		}
	}
}

// TestDeepTrees looks at the deepest trees for which the document promises anything.
func TestDeepTrees(t *testing.T) {
	const levels = 1 << 16
	a, b := chain(levels, statement("a")), chain(levels, statement("b"))
	if n := syntax.Count(a); n != levels+1 {
		t.Errorf("P4.2: Count = %d", n)
	}
	if syntax.Same(a, b) || !syntax.Same(a, chain(levels, statement("a"))) {
		t.Error("P4.2: Same of two deep trees")
	}
	if e, s := syntax.Check(a), syntax.Format(a); e != api.ErrDepth || s != "" {
		t.Errorf("P4.2: Check = %d, Format = %s", e, brief(s))
	}
}
