package syntax

import "substation/api"

// builder builds statements from the tokens of a text, and counts those that have begun.
type builder struct {
	reader
	begun int
}

// list reads statements up to the end of their block, or at depth 0 of the text; the number is the line of the error.
func (b *builder) list(depth int) ([]api.Item, int, api.Errno) {
	last := endOfText
	if depth > 0 {
		last = closing
	}
	var l []api.Item
	for {
		t, e := b.next()
		switch {
		case e != api.OK:
			return nil, t.line, e
		case t.kind == last:
			return l, 0, api.OK
		case t.kind != word:
			return nil, t.line, api.ErrSyntax
		}
		item, line, e := b.statement(t, depth)
		if e != api.OK {
			return nil, line, e
		}
		l = append(l, item)
	}
}

// statement reads a statement, of which the first word has been read; the number is the line of the error.
func (b *builder) statement(first token, depth int) (api.Item, int, api.Errno) {
	if !begins(first.word) {
		return api.Item{}, first.line, api.ErrSyntax
	}
	if b.begun == api.MaxItems {
		return api.Item{}, first.line, api.ErrCount
	}
	b.begun++
	words, t, e := b.words(first.word)
	switch {
	case e != api.OK:
		return api.Item{}, t.line, e
	case t.kind == semicolon:
		return api.Item{Line: first.line, Words: words}, 0, api.OK
	case t.kind != opening:
		return api.Item{}, t.line, api.ErrSyntax
	case depth == api.MaxDepth:
		return api.Item{}, t.line, api.ErrDepth
	}
	kids, line, e := b.list(depth + 1)
	if e != api.OK {
		return api.Item{}, line, e
	}
	return api.Item{Line: first.line, Words: words, Block: true, Kids: kids}, 0, api.OK
}

// words reads the words of a statement after its first one, and the token behind them, or the one with an error.
func (b *builder) words(first api.Word) ([]api.Word, token, api.Errno) {
	l := []api.Word{first}
	for {
		t, e := b.next()
		switch {
		case e != api.OK:
			return nil, t, e
		case t.kind != word:
			return l, t, api.OK
		case len(l) == api.MaxWords:
			return nil, t, api.ErrCount
		}
		l = append(l, t.word)
	}
}

// begins reports whether a statement may begin with w.
func begins(w api.Word) bool {
	return !w.Quoted && w.Text != "" && isLetter(rune(w.Text[0]))
}
