package syntax_test

import (
	"fmt"
	"math/rand"
	"slices"
	"strings"
	"testing"

	"substation/api"
	"substation/syntax"
)

// plain returns a plain word, quoted a quoted one; neither looks at the text.
func plain(text string) api.Word  { return api.Word{Text: text} }
func quoted(text string) api.Word { return api.Word{Text: text, Quoted: true} }

// statement returns a statement without a block, from plain words that are separated by blanks.
func statement(words string) api.Item {
	var item api.Item
	for _, w := range strings.Fields(words) {
		item.Words = append(item.Words, plain(w))
	}
	return item
}

// block returns a statement with a block.
func block(words string, kids ...api.Item) api.Item {
	item := statement(words)
	item.Block, item.Kids = true, kids
	return item
}

// chain returns a statement at each depth from 0 to depth, the last one of which is given.
func chain(depth int, last api.Item) []api.Item {
	for range depth {
		last = block("a", last)
	}
	return []api.Item{last}
}

// times returns n equal statements.
func times(n int, item api.Item) []api.Item { return slices.Repeat([]api.Item{item}, n) }

// dump returns statements with all of their fields as a short text: `1:a,"b"{2:c;};`.
func dump(l []api.Item) string {
	var b strings.Builder
	for _, item := range l {
		fmt.Fprintf(&b, "%d:", item.Line)
		for i, w := range item.Words {
			if i > 0 {
				b.WriteString(",")
			}
			if w.Quoted {
				fmt.Fprintf(&b, "%q", w.Text)
			} else {
				b.WriteString(w.Text)
			}
		}
		if item.Block {
			b.WriteString("{" + dump(item.Kids) + "}")
		} else if len(item.Kids) > 0 {
			b.WriteString("!{" + dump(item.Kids) + "}")
		}
		b.WriteString(";")
	}
	return b.String()
}

// clone returns a copy of statements that shares no memory with them.
func clone(l []api.Item) []api.Item {
	l = slices.Clone(l)
	for i := range l {
		l[i].Words = slices.Clone(l[i].Words)
		l[i].Kids = clone(l[i].Kids)
	}
	return l
}

// expect fails if a parse has not the given statements, or not the given error.
func expect(t *testing.T, s, want string, wantLine int, wantError api.Errno) {
	t.Helper()
	l, line, e := syntax.Parse(s)
	if dump(l) != want || line != wantLine || e != wantError {
		t.Errorf("P4.1: Parse of %s = %s, %d, %d; want %s, %d, %d", brief(s), brief(dump(l)), line, e, brief(want), wantLine, wantError)
	}
}

// brief returns s in quotes, and only its length if it is long.
func brief(s string) string {
	if len(s) > 300 {
		return fmt.Sprintf("%q.. (%d bytes)", s[:40], len(s))
	}
	return fmt.Sprintf("%q", s)
}

const (
	letters    = "ABCDEFGHIJKLMNOPQRSTUVWXYZabcdefghijklmnopqrstuvwxyz"
	digits     = "0123456789"
	characters = letters + digits + "_-+./:"
)

// pick returns one of the elements of a list.
func pick[T any](r *rand.Rand, l []T) T { return l[r.Intn(len(l))] }

// randomWord returns a word that may occur in a statement.
func randomWord(r *rand.Rand) api.Word {
	n := pick(r, []int{0, 1, 2, 3, 10, 119, 120})
	text := make([]byte, n)
	if r.Intn(3) > 0 {
		text = make([]byte, max(n, 1))
		for i := range text {
			text[i] = characters[r.Intn(len(characters))]
		}
		return plain(string(text))
	}
	for i := range text {
		for text[i] < 32 || text[i] == '"' {
			text[i] = byte(r.Intn(127))
		}
	}
	return quoted(string(text))
}

// randomItems returns statements without an error, if they are not too many.
func randomItems(r *rand.Rand, depth int) []api.Item {
	var l []api.Item
	for range r.Intn(6 - depth) {
		item := api.Item{Line: r.Intn(9) - 4, Words: []api.Word{plain(letters[r.Intn(len(letters)):][:1])}}
		for range pick(r, []int{0, 0, 1, 2, 3, 39}) {
			item.Words = append(item.Words, randomWord(r))
		}
		if depth < api.MaxDepth && r.Intn(2) == 0 {
			item.Block, item.Kids = true, randomItems(r, depth+1)
		}
		l = append(l, item)
	}
	return l
}

// loose returns a text of statements with white space and comments between their tokens, as few as possible at some places.
func loose(r *rand.Rand, l []api.Item) string {
	var b strings.Builder
	space := func(atLeast int) {
		for range atLeast + r.Intn(2)*r.Intn(3) {
			b.WriteString(pick(r, []string{" ", "\t", "\n", "#\n", "# \"x { \x00\xff\xc3\n"}))
		}
	}
	for _, item := range l {
		for i, w := range item.Words {
			space(min(i, 1))
			if w.Quoted {
				b.WriteString(`"` + w.Text + `"`)
			} else {
				b.WriteString(w.Text)
			}
		}
		space(0)
		if item.Block {
			b.WriteString("{" + loose(r, item.Kids))
			space(0)
			b.WriteString("}")
		} else {
			b.WriteString(";")
		}
		space(0)
	}
	return b.String()
}
