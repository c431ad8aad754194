package syntax

import (
	"strings"

	"substation/api"
)

// kind is the kind of a token. That of a mark is its byte, that of all words the quote.
type kind byte

const (
	endOfText kind = 0
	semicolon kind = ';'
	opening   kind = '{'
	closing   kind = '}'
	word      kind = '"'
)

// token is a token of a text, with its line. If there is none because of an error, the line is that of the error.
type token struct {
	kind kind
	word api.Word
	line int
}

// reader reads a text token by token: the rest of the text, and the line with which it begins.
type reader struct {
	rest string
	line int
}

// next reads a token.
func (r *reader) next() (token, api.Errno) {
between:
	r.take(isWhite)
	if strings.HasPrefix(r.rest, "#") {
		r.take(func(c rune) bool { return c != '\n' })
		goto between
	}
	t := token{line: r.line}
	if r.rest == "" {
		return t, api.OK
	}
	first := r.rest[0]
	switch kind(first) {
	case semicolon, opening, closing:
		r.rest = r.rest[1:]
		t.kind = kind(first)
		return t, api.OK
	case word:
		return r.quoted(t)
	}
	if isPlain(rune(first)) {
		return r.ended(t, api.Word{Text: r.take(isPlain)})
	}
	return t, api.ErrByte
}

// quoted reads a quoted word as the token t. All of its bytes are on one line, and so is a byte that is not allowed.
func (r *reader) quoted(t token) (token, api.Errno) {
	r.rest = r.rest[1:]
	text := r.take(isQuotable)
	if r.rest == "" {
		return t, api.ErrSyntax
	}
	if r.rest[0] != '"' {
		return t, api.ErrByte
	}
	r.rest = r.rest[1:]
	return r.ended(t, api.Word{Text: text, Quoted: true})
}

// ended returns a word that has been read as the token t, if it may end where it does.
func (r *reader) ended(t token, w api.Word) (token, api.Errno) {
	if len(w.Text) > api.MaxWord {
		return t, api.ErrLength
	}
	// No character of plain words is left behind a plain word, so what is not allowed is the same behind both kinds of words.
	if r.rest != "" && (r.rest[0] == '"' || isPlain(rune(r.rest[0]))) {
		return t, api.ErrSyntax
	}
	// A part of the text would keep the whole of it in memory.
	w.Text = strings.Clone(w.Text)
	t.kind, t.word = word, w
	return t, api.OK
}

// take reads all characters up to the first one that does not fit, and counts their lines.
func (r *reader) take(fits func(c rune) bool) string {
	n := span(r.rest, fits)
	taken := r.rest[:n]
	r.rest = r.rest[n:]
	r.line += strings.Count(taken, "\n")
	return taken
}

// span returns the number of bytes of s before its first character that does not fit. A byte that belongs to no character counts as one that is no byte of a word.
func span(s string, fits func(c rune) bool) int {
	for i, c := range s {
		if !fits(c) {
			return i
		}
	}
	return len(s)
}

func isWhite(c rune) bool    { return c == ' ' || c == '\t' || c == '\n' }
func isLetter(c rune) bool   { return 'A' <= c && c <= 'Z' || 'a' <= c && c <= 'z' }
func isDigit(c rune) bool    { return '0' <= c && c <= '9' }
func isPlain(c rune) bool    { return isLetter(c) || isDigit(c) || strings.ContainsRune("_-+./:", c) }
func isQuotable(c rune) bool { return ' ' <= c && c <= '~' && c != '"' }
