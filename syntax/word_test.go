package syntax_test

import (
	"strconv"
	"strings"
	"testing"

	"substation/syntax"
)

func TestPlain(t *testing.T) {
	for s, want := range map[string]bool{
		"":                                false,
		"a":                               true,
		"1":                               true,
		"-":                               true,
		"_-+./:":                          true,
		letters + digits:                  true,
		strings.Repeat("w", 120):          true,
		strings.Repeat("w", 121):          true,
		strings.Repeat(":", 1e6):          true,
		" ":                               false,
		"a b":                             false,
		"a ":                              false,
		" a":                              false,
		"a\n":                             false,
		"a\x00":                           false,
		"\"a\"":                           false,
		"a;":                              false,
		"a{}":                             false,
		"#a":                              false,
		"a,b":                             false,
		"\u00e9":                          false,
		"a\u212a":                         false,
		"\u0661":                          false,
		"a\ufffd":                         false,
		"a\xff":                           false,
		"\xc3":                            false,
		strings.Repeat("w", 1e6) + "\x80": false,
	} {
		if got := syntax.Plain(s); got != want {
			t.Errorf("P4.3: Plain(%s) = %v", brief(s), got)
		}
	}
	for c := range 256 {
		b := string([]byte{byte(c)})
		for _, s := range []string{b, "a" + b, b + "a", "a" + b + "a"} {
			if got := syntax.Plain(s); got != strings.Contains(characters, b) {
				t.Errorf("P4.3: Plain(%q) = %v", s, got)
			}
		}
	}
}

func TestNumber(t *testing.T) {
	for s, want := range map[string]int{
		"0":        0,
		"1":        1,
		"-1":       -1,
		"9":        9,
		"10":       10,
		"-10":      -10,
		"100":      100,
		"1234567":  1234567,
		"-1234567": -1234567,
		"9999999":  9999999,
		"-9999999": -9999999,
		"1000000":  1000000,
	} {
		if n, ok := syntax.Number(s); n != want || !ok {
			t.Errorf("P4.3: Number(%q) = %d, %v", s, n, ok)
		}
	}
	for _, s := range []string{
		"", "-", "--", "--1", "-0", "00", "01", "-00", "-01", "0000001", "00000000", "12345678", "-12345678", "10000000",
		"+1", "+0", "1-", "1-1", "0-", "a", "1a", "a1", "0x1", "1_0", "1.0", "1/2", "1:", "/", ":", " 1", "1 ", "1\n", "-\n1", "\x001",
		"\u0661", "1\u0661", "\u22121", "1\xff", "\xff", "18446744073709551617", strings.Repeat("1", 1e6),
	} {
		if n, ok := syntax.Number(s); n != 0 || ok {
			t.Errorf("P4.3: Number(%s) = %d, %v", brief(s), n, ok)
		}
	}
}

// TestNumberOfInts looks at all small ints and at those around each power of ten.
func TestNumberOfInts(t *testing.T) {
	check := func(n int) {
		want := n
		ok := -10000000 < n && n < 10000000
		if !ok {
			want = 0
		}
		if got, is := syntax.Number(strconv.Itoa(n)); got != want || is != ok {
			t.Errorf("P4.3: Number(%d) = %d, %v", n, got, is)
		}
	}
	power := 1
	for range 18 {
		for d := -1100; d <= 1100; d++ {
			check(power + d)
			check(-power + d)
		}
		power *= 10
	}
}
