package integer_test

import (
	"math/rand"
	"strings"
	"testing"

	"substation/api"
	"substation/integer"
)

func TestText(t *testing.T) {
	for s, x := range map[string]api.Int{
		"0":                              {},
		"7":                              number(false, 7),
		"-7":                             number(true, 7),
		"-10":                            number(true, 10),
		"999999999":                      number(false, 999999999),
		"1000000000":                     number(false, 1000000000),
		"-4294967296":                    number(true, 0, 1),
		"1000000001000000000":            integer.Of(1000000001000000000),
		"9223372036854775807":            integer.Of(1<<63 - 1),
		"-9223372036854775808":           integer.Of(-1 << 63),
		"18446744073709551615":           number(false, top, top),
		"18446744073709551616":           power(2),
		"-79228162514264337593543950336": negative(power(3)),
	} {
		if got := integer.Text(x); got != s {
			t.Errorf("P1.3: Text(%v) = %q, not %q", x, got, s)
		}
		if y, e := integer.Parse(s); e != api.OK || !same(y, x) {
			t.Errorf("P1.3: Parse(%q) = %v, %d", s, y, e)
		}
	}
	for i, x := range invalid() {
		if s := integer.Text(x); s != "" {
			t.Errorf("P1.3: Text of invalid integer %d = %q", i, s)
		}
	}
}

func TestTextRandom(t *testing.T) {
	r := rand.New(rand.NewSource(31))
	l := edges()
	for range 3000 {
		l = append(l, random(r, 7))
	}
	for range 20 {
		l = append(l, random(r, integer.MaxDigits))
	}
	for _, x := range l {
		s := integer.Text(x)
		if s != toBig(x).String() {
			t.Fatalf("P1.3: Text(%v) = %q", x, s)
		}
		if y, e := integer.Parse(s); e != api.OK || !same(y, x) {
			t.Fatalf("P1.3, P1.4: Parse(%q) = %v, %d", s, y, e)
		}
	}
}

// TestPowersOfTen looks at texts with zeros inside and at their end, whatever their length.
func TestPowersOfTen(t *testing.T) {
	for n := range 60 {
		for _, s := range []string{"1" + strings.Repeat("0", n), "-1" + strings.Repeat("0", n), "1" + strings.Repeat("0", n) + "1", strings.Repeat("9", n+1), "-" + strings.Repeat("9", n+1)} {
			x, e := integer.Parse(s)
			if e != api.OK || !integer.Valid(x) || toBig(x).String() != s || integer.Text(x) != s {
				t.Errorf("P1.3: Parse(%q) = %v, %d, with text %q", s, x, e, integer.Text(x))
			}
		}
	}
}

func TestParseErrors(t *testing.T) {
	for s, want := range map[string]api.Errno{
		"":                              api.ErrSyntax,
		"-":                             api.ErrSyntax,
		"--":                            api.ErrSyntax,
		"-0":                            api.ErrSyntax,
		"00":                            api.ErrSyntax,
		"-00":                           api.ErrSyntax,
		"01":                            api.ErrSyntax,
		"-01":                           api.ErrSyntax,
		"0-":                            api.ErrSyntax,
		"+1":                            api.ErrSyntax,
		"--1":                           api.ErrSyntax,
		"1-":                            api.ErrSyntax,
		"1-1":                           api.ErrSyntax,
		" 1":                            api.ErrSyntax,
		"1 ":                            api.ErrSyntax,
		"1\n":                           api.ErrSyntax,
		"1a":                            api.ErrSyntax,
		"0x1":                           api.ErrSyntax,
		"1_000":                         api.ErrSyntax,
		"1.0":                           api.ErrSyntax,
		"1/":                            api.ErrSyntax,
		"1:":                            api.ErrSyntax,
		"\x00":                          api.ErrSyntax,
		"\xff":                          api.ErrSyntax,
		"\u0661":                        api.ErrSyntax,
		"\u22121":                       api.ErrSyntax,
		strings.Repeat("9", 4000):       api.ErrRange,
		"-" + strings.Repeat("9", 3999): api.ErrRange,
		strings.Repeat("9", 4001):       api.ErrLength,
		"-" + strings.Repeat("9", 4000): api.ErrLength,
		strings.Repeat("x", 4000):       api.ErrSyntax,
		strings.Repeat("x", 4001):       api.ErrLength,
		strings.Repeat("0", 4000):       api.ErrSyntax,
		strings.Repeat("9", 3999) + "x": api.ErrSyntax,
		strings.Repeat("9", 100000):     api.ErrLength,
	} {
		if x, e := integer.Parse(s); e != want || !zero(x) {
			t.Errorf("P1.3: Parse of %d bytes, %.9q = %v, %d, not error %d", len(s), s, x, e, want)
		}
	}
}

// TestParseLongest looks at the last integer with MaxDigits digits and the first one beyond.
func TestParseLongest(t *testing.T) {
	last, next := greatest(integer.MaxDigits), power(integer.MaxDigits)
	for _, sign := range []string{"", "-"} {
		want := api.Int{Neg: sign != "", Mag: last.Mag}
		s := sign + toBig(last).String()
		if x, e := integer.Parse(s); e != api.OK || !same(x, want) || integer.Text(x) != s {
			t.Errorf("P1.3: Parse of the longest integer: %d digits, error %d", len(x.Mag), e)
		}
		if x, e := integer.Parse(sign + toBig(next).String()); e != api.ErrRange || !zero(x) {
			t.Errorf("P1.3: Parse of an integer with a digit too many: %d digits, error %d", len(x.Mag), e)
		}
	}
}

func TestExamples(t *testing.T) {
	if s := integer.Text(number(true, 0, 1)); s != "-4294967296" {
		t.Errorf("P1.3: example 2: Text = %q", s)
	}
	if integer.Valid(api.Int{Neg: true}) {
		t.Error("P1.1: example 2: -0 is valid")
	}
	if r, e := integer.Root(integer.Of(80)); e != api.OK || !same(r, integer.Of(8)) {
		t.Errorf("P1.2: example 1: Root(80) = %v, %d", r, e)
	}
	for _, c := range [][4]int{{-7, 2, -4, 1}, {-7, -2, 4, 1}} {
		q, r, e := integer.Divide(integer.Of(c[0]), integer.Of(c[1]))
		if e != api.OK || !same(q, integer.Of(c[2])) || !same(r, integer.Of(c[3])) {
			t.Errorf("P1.2: example 1: Divide(%d, %d) = %v, %v, %d", c[0], c[1], q, r, e)
		}
	}
}
