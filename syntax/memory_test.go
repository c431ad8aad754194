package syntax_test

import (
	"fmt"
	"math/rand"
	"slices"
	"testing"
	"unsafe"

	"substation/api"
	"substation/syntax"
)

// places are the places of memory of some lists, including their spare capacity.
type places struct {
	items map[*api.Item]bool
	words map[*api.Word]bool
}

// add adds the places of a list with all that is in it, and returns whether none of them was there before.
func (p places) add(l []api.Item) bool {
	ok := true
	for i := range l[:cap(l)] {
		at := &l[:cap(l)][i]
		ok = ok && !p.items[at]
		p.items[at] = true
	}
	for _, item := range l {
		for i := range item.Words[:cap(item.Words)] {
			at := &item.Words[:cap(item.Words)][i]
			ok = ok && !p.words[at]
			p.words[at] = true
		}
		ok = p.add(item.Kids) && ok
	}
	return ok
}

// within reports whether the text of a word is a part of s in memory.
func within(l []api.Item, s string) bool {
	first := uintptr(unsafe.Pointer(unsafe.StringData(s)))
	for _, item := range l {
		for _, w := range item.Words {
			at := uintptr(unsafe.Pointer(unsafe.StringData(w.Text)))
			if w.Text != "" && first <= at && at < first+uintptr(len(s)) {
				return true
			}
		}
		if within(item.Kids, s) {
			return true
		}
	}
	return false
}

// TestResults looks at P2 and P3: the results of two calls are equal, and no memory is shared within a result, between two results, or with the text.
func TestResults(t *testing.T) {
	r := rand.New(rand.NewSource(51))
	for range 500 {
		s := loose(r, randomItems(r, 0))
		p := places{map[*api.Item]bool{}, map[*api.Word]bool{}}
		first, line, e := syntax.Parse(s)
		if !p.add(first) {
			t.Errorf("P2: two lists of Parse(%s) share memory", brief(s))
		}
		if within(first, s) {
			t.Errorf("P2: a word of Parse(%s) is kept in the text", brief(s))
		}
		second, line2, e2 := syntax.Parse(s)
		if dump(first) != dump(second) || line != line2 || e != e2 {
			t.Errorf("P3: Parse(%s) = %s, %d, %d and %s, %d, %d", brief(s), brief(dump(first)), line, e, brief(dump(second)), line2, e2)
		}
		if !p.add(second) {
			t.Errorf("P2: the results of two calls with %s share memory", brief(s))
		}
	}
}

// roomy returns a copy of statements, with something in the spare capacity of all lists.
func roomy(l []api.Item) []api.Item {
	l = slices.Clone(l)
	for i, item := range l {
		l[i].Words = append(slices.Clone(item.Words), quoted("spare"))[:len(item.Words)]
		l[i].Kids = roomy(item.Kids)
	}
	return append(l, block("spare", statement("kid")))[:len(l)]
}

// full returns all that the memory of statements contains, including the spare capacity of their lists.
func full(l []api.Item) string {
	s := ""
	for _, item := range l[:cap(l)] {
		s += fmt.Sprint(item.Line, item.Words[:cap(item.Words)], item.Block, "{", full(item.Kids), "}")
	}
	return s
}

// TestArguments looks at P2: calls change neither their arguments nor what lies behind them.
func TestArguments(t *testing.T) {
	r := rand.New(rand.NewSource(52))
	for range 500 {
		l := roomy(randomItems(r, 0))
		if r.Intn(3) == 0 && len(l) > 0 {
			l[r.Intn(len(l))].Words[0].Quoted = true
		}
		before, other := full(l), clone(l)
		syntax.Check(l)
		syntax.Format(l)
		syntax.Count(l)
		syntax.Same(l, other)
		syntax.Same(other, l)
		if full(l) != before {
			t.Errorf("P2: a call has changed %s to %s", brief(before), brief(full(l)))
		}
	}
}
