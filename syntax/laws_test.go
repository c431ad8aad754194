package syntax_test

import (
	"math/rand"
	"strings"
	"testing"

	"substation/api"
	"substation/syntax"
)

// checkRoundTrip checks that a parse of the canonical text returns the same statements.
func checkRoundTrip(t *testing.T, l []api.Item) {
	t.Helper()
	s := syntax.Format(l)
	got, line, e := syntax.Parse(s)
	switch {
	case len(s) > api.MaxText:
		if got != nil || line != 0 || e != api.ErrLength {
			t.Errorf("P4.1: Parse of %d bytes = %v, %d, %d", len(s), got, line, e)
		}
	case e != api.OK || line != 0 || !syntax.Same(got, l):
		t.Errorf("P4.4: Parse(Format) of %s = %s, %d, %d", brief(dump(l)), brief(dump(got)), line, e)
	case syntax.Format(got) != s:
		t.Errorf("P4.4: Format of %s is not canonical", brief(dump(l)))
	case syntax.Count(got) != syntax.Count(l) || syntax.Check(got) != api.OK:
		t.Errorf("P4.4: %s: Count %d, Check %d", brief(dump(l)), syntax.Count(got), syntax.Check(got))
	}
}

func TestRoundTrip(t *testing.T) {
	r := rand.New(rand.NewSource(41))
	short := 0
	for range 5000 {
		l := randomItems(r, 0)
		if syntax.Count(l) > api.MaxItems {
			continue
		}
		if e := syntax.Check(l); e != api.OK {
			t.Fatalf("P4.2: Check of %s = %d", brief(dump(l)), e)
		}
		checkRoundTrip(t, l)
		s := loose(r, l)
		if len(s) > api.MaxText {
			continue
		}
		short++
		got, line, e := syntax.Parse(s)
		if e != api.OK || line != 0 || !syntax.Same(got, l) {
			t.Errorf("P4.1: Parse of %s = %s, %d, %d", brief(s), brief(dump(got)), line, e)
		}
		checkRoundTrip(t, got)
	}
	if short < 1000 {
		t.Errorf("only %d texts are short enough", short)
	}
}

// TestRoundTripAtLimits looks at the largest trees, and at texts of MaxText bytes and of one more.
func TestRoundTripAtLimits(t *testing.T) {
	longest := strings.Repeat("w", 120)
	for _, l := range [][]api.Item{
		nil,
		times(600, statement("a")),
		times(120, chain(4, statement("a"))[0]),
		times(150, chain(3, block("a"))[0]),
		{statement(strings.Repeat(longest+" ", 40))},
		{block(strings.Repeat(longest+" ", 40), statement(strings.Repeat("a ", 40)))},
	} {
		if syntax.Check(l) != api.OK || len(syntax.Format(l)) > api.MaxText {
			t.Errorf("%s is no tree of this test", brief(dump(l)))
		}
		checkRoundTrip(t, l)
	}
	// A line has 20 bytes at the most with this word, and the last one fills the text up.
	for d := range 3 {
		l := append(times(599, statement("a23456789012345678")), statement("a"+strings.Repeat("b", 17+d)))
		if s := syntax.Format(l); len(s) != 12000+d {
			t.Errorf("P4.2: Format returns %d bytes, not %d", len(s), 12000+d)
		}
		checkRoundTrip(t, l)
	}
}

// TestEmptyBlockAtDepth4 looks at the one kind of tree that has no error (a statement at depth 4 is not above 4), though its text has one (a statement in the block would be).
func TestEmptyBlockAtDepth4(t *testing.T) {
	l := chain(4, block("b"))
	if e := syntax.Check(l); e != api.OK {
		t.Errorf("P4.2: Check of an empty block at depth 4 = %d", e)
	}
	s := syntax.Format(l)
	if want := "a {\n  a {\n    a {\n      a {\n        b {\n        }\n      }\n    }\n  }\n}\n"; s != want {
		t.Errorf("P4.2: Format of an empty block at depth 4 = %q", s)
	}
	expect(t, s, "", 5, api.ErrDepth)
}

func TestExamples(t *testing.T) {
	l, line, e := syntax.Parse("bus A; bay Q { ct 100; }")
	if len(l) != 2 || line != 0 || e != api.OK || l[0].Block || !l[1].Block || len(l[1].Kids) != 1 || syntax.Count(l) != 3 {
		t.Errorf("P4.1: example 1: %s, %d, %d", dump(l), line, e)
	}
	expect(t, "a b", "", 1, api.ErrSyntax)
	expect(t, "\"x\";", "", 1, api.ErrSyntax)
}
