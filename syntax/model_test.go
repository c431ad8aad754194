package syntax_test

import (
	"math/rand"
	"regexp"
	"strings"
	"testing"

	"substation/api"
	"substation/syntax"
)

// The tokens and what may stand in their place.
var (
	space  = regexp.MustCompile(`^([ \t\n]|#[^\n]*)`)
	mark   = regexp.MustCompile(`^[;{}]`)
	bare   = regexp.MustCompile(`^[A-Za-z0-9_+./:-]+`)
	closed = regexp.MustCompile(`^"([ !#-~]*)"`)
	torn   = regexp.MustCompile(`^"[ !#-~]*$`)
	joined = regexp.MustCompile(`^["A-Za-z0-9_+./:-]`)
)

// model is a parser that the tests compare with: it finds the tokens with regular expressions and keeps the statements that are open in a list.
type model struct {
	s     string
	at    int
	open  []api.Item // the list of the text as the kids of the first one, and the statements with open blocks
	begun bool
	item  api.Item // the statement that has begun
	count int
}

func (m *model) line() int { return 1 + strings.Count(m.s[:m.at], "\n") }

// parse returns what Parse is to return.
func (m *model) parse() ([]api.Item, int, api.Errno) {
	if len(m.s) > 12000 {
		return nil, 0, api.ErrLength
	}
	m.open = []api.Item{{}}
	for m.at < len(m.s) {
		line := m.line()
		if e := m.token(); e != api.OK {
			return nil, line, e
		}
	}
	if m.begun || len(m.open) > 1 {
		return nil, m.line(), api.ErrSyntax
	}
	return m.open[0].Kids, 0, api.OK
}

// token reads a token, or the white space or comment in its place.
func (m *model) token() api.Errno {
	rest := m.s[m.at:]
	var w api.Word
	n := 0
	if found := space.FindString(rest); found != "" {
		m.at += len(found)
		return api.OK
	} else if found := mark.FindString(rest); found != "" {
		m.at++
		return m.mark(found)
	} else if found := bare.FindString(rest); found != "" {
		w, n = plain(found), len(found)
	} else if found := closed.FindStringSubmatch(rest); found != nil {
		w, n = quoted(found[1]), len(found[0])
	} else if torn.MatchString(rest) {
		return api.ErrSyntax
	} else {
		return api.ErrByte
	}
	if len(w.Text) > 120 {
		return api.ErrLength
	}
	if joined.MatchString(rest[n:]) {
		return api.ErrSyntax
	}
	line := m.line()
	m.at += n
	return m.word(w, line)
}

func (m *model) word(w api.Word, line int) api.Errno {
	if m.begun {
		if len(m.item.Words) == 40 {
			return api.ErrCount
		}
		m.item.Words = append(m.item.Words, w)
		return api.OK
	}
	if w.Quoted || !strings.Contains(letters, w.Text[:1]) {
		return api.ErrSyntax
	}
	if m.count == 600 {
		return api.ErrCount
	}
	m.count++
	m.begun, m.item = true, api.Item{Line: line, Words: []api.Word{w}}
	return api.OK
}

func (m *model) mark(s string) api.Errno {
	if m.begun == (s == "}") || s == "}" && len(m.open) == 1 {
		return api.ErrSyntax
	}
	if s == "{" {
		if len(m.open) == 5 {
			return api.ErrDepth
		}
		m.item.Block = true
		m.open = append(m.open, m.item)
		m.begun = false
		return api.OK
	}
	if s == "}" {
		m.item = m.open[len(m.open)-1]
		m.open = m.open[:len(m.open)-1]
	}
	above := &m.open[len(m.open)-1]
	above.Kids = append(above.Kids, m.item)
	m.begun = false
	return api.OK
}

// compare fails if Parse and the model differ.
func compare(t *testing.T, s string) {
	t.Helper()
	l, line, e := (&model{s: s}).parse()
	expect(t, s, dump(l), line, e)
}

// mixture returns a text of pieces that fit together or not.
func mixture(r *rand.Rand) string {
	pieces := []string{
		"a", "b", "bus", "a;", "a b;", "a{", "a b {", "}", "}", ";", "{", " ", " ", "\t", "\n", "\n", "1", "-", "_",
		"\"\"", "\"b\"", " \"b c\" ", "\"", "#", "#\n", "# c } \"\n", "$", "\r", "\x00", "\x7f", "\x80", "\xff", "\u00e9", "\u20ac", "\xf0\x9f",
	}
	// Most texts are of the pieces that begin the list, so that errors come late.
	last := pick(r, []int{14, 16, 22, len(pieces)})
	var b strings.Builder
	for range r.Intn(30) {
		b.WriteString(pieces[r.Intn(last)])
	}
	return b.String()
}

// damaged returns s with a byte removed, inserted or replaced.
func damaged(r *rand.Rand, s string) string {
	at := r.Intn(len(s) + 1)
	c := pick(r, []string{"", ";", "{", "}", "\"", "#", "\n", " ", "a", "1", "$", "\x1f", "\xe2"})
	return s[:at] + c + s[min(at+r.Intn(2), len(s)):]
}

func TestParseRandom(t *testing.T) {
	r := rand.New(rand.NewSource(61))
	for range 100000 {
		compare(t, mixture(r))
	}
	for range 3000 {
		s := loose(r, randomItems(r, 0))
		compare(t, s)
		for range 5 {
			s = damaged(r, s)
			compare(t, s)
		}
	}
	for range 10000 {
		b := make([]byte, r.Intn(20))
		r.Read(b)
		compare(t, string(b))
	}
}

// TestShortTexts looks at all short texts of the bytes that mean something.
func TestShortTexts(t *testing.T) {
	const bytes = "a1;{}\"# \n$"
	texts := []string{""}
	for range 5 {
		var longer []string
		for _, s := range texts {
			for i := range bytes {
				longer = append(longer, s+bytes[i:i+1])
			}
		}
		for _, s := range longer {
			compare(t, s)
		}
		texts = longer
	}
}

// TestCheckRandom looks at trees with one error, which a parse of their text finds too.
func TestCheckRandom(t *testing.T) {
	r := rand.New(rand.NewSource(62))
	found := map[api.Errno]int{}
	for range 20000 {
		l := randomItems(r, 0)
		want := spoil(r, l)
		if syntax.Count(l) > api.MaxItems {
			continue
		}
		found[want]++
		if e := syntax.Check(l); e != want {
			t.Fatalf("P4.2: Check of %s = %d, not %d", brief(dump(l)), e, want)
		}
	}
	for _, e := range []api.Errno{api.OK, api.ErrLength, api.ErrByte, api.ErrSyntax, api.ErrCount, api.ErrConflict} {
		if found[e] < 100 {
			t.Errorf("error %d occurs %d times only", e, found[e])
		}
	}
}

// spoil changes a word or statement so that it has an error, and returns it.
func spoil(r *rand.Rand, l []api.Item) api.Errno {
	if len(l) == 0 {
		return api.OK
	}
	item := &l[r.Intn(len(l))]
	if len(item.Kids) > 0 && r.Intn(2) == 0 {
		return spoil(r, item.Kids)
	}
	w := &item.Words[r.Intn(len(item.Words))]
	switch r.Intn(6) {
	case 0:
		w.Text = "w" + strings.Repeat(w.Text+"w", 121)
		return firstOr(item, w, api.ErrLength)
	case 1:
		w.Quoted, w.Text = true, pick(r, []string{"\"", "a\x1f", "\x7fa", "\u00e9"})
		return firstOr(item, w, api.ErrByte)
	case 2:
		w.Quoted, w.Text = false, pick(r, []string{"", "a b", "a\"", "\u00e9", "a\n"})
		return api.ErrSyntax
	case 3:
		item.Words = append(item.Words, make([]api.Word, 40)...)
		return api.ErrCount
	case 4:
		if len(item.Kids) > 0 {
			item.Block = false
			return api.ErrConflict
		}
	}
	return api.OK
}

// firstOr returns the error of a word, which is another one if it is quoted and the first one of its statement.
func firstOr(item *api.Item, w *api.Word, e api.Errno) api.Errno {
	if w == &item.Words[0] && w.Quoted {
		return api.ErrSyntax
	}
	return e
}
