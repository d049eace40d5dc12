// Package lex is layer 1: see shared/doc/01-lex.md.
package lex

import (
	"strconv"

	"reverie/api"
)

// mostDigits is such that each number that may be written fits an int64.
const mostDigits = 18

// Tokens is a text's tokens; or the place of the first byte that begins none.
func Tokens(s []byte) ([]api.Token, int, api.Errno) {
	if len(s) > api.MaxSource {
		return nil, api.MaxSource, api.ErrLex
	}
	var list []api.Token
	var at, kind, end int

next:
	at = skip(s, end)
	if at == len(s) {
		return list, -1, api.OK
	}
	kind, end = read(s, at)
	if end == at {
		return nil, at, api.ErrLex
	}
	list = append(list, makeToken(kind, at, string(s[at:end])))
	goto next
}

// skip is the first place from at on that stands in no blank and no note.
func skip(s []byte, at int) int {
blanks:
	if isBlank(byteAt(s, at)) {
		at++
		goto blanks
	}
	if byteAt(s, at) != ';' {
		return at
	}

note:
	if at < len(s) && s[at] != '\n' {
		at++
		goto note
	}
	goto blanks
}

// read is the kind of the token that begins at a place, and the place behind it; at itself, if none begins there.
func read(s []byte, at int) (kind, end int) {
	digits := at
	end = at + 1
	switch c := s[at]; {
	case c == '-':
		goto minus
	case isDigit(c):
		goto number
	case isSmall(c):
		kind = api.NameTok
		goto word
	case isGreat(c):
		kind = api.ConTok
		goto word
	}
	goto single

minus:
	if byteAt(s, end) == '>' {
		return api.SymTok, end + 1
	}
	if !isDigit(byteAt(s, end)) {
		goto single
	}
	digits = end

number:
	if isDigit(byteAt(s, end)) {
		end++
		goto number
	}
	if end-digits > mostDigits || isInWord(byteAt(s, end)) {
		goto none
	}
	return api.IntTok, end

word:
	if isInWord(byteAt(s, end)) {
		end++
		goto word
	}
	return kind, end

single:
	kind = singleKind(s[at])
	if kind < 0 {
		goto none
	}
	return kind, end

none:
	return 0, at
}

// singleKind is the kind of the token that a byte alone is; below 0, if it is none.
func singleKind(c byte) int {
	switch c {
	case '(':
		return api.OpenTok
	case ')':
		return api.CloseTok
	case '_', '+', '-', '*', '/', '%', '=', '<':
		return api.SymTok
	}
	return -1
}

// makeToken reads a number without asking for errors: it has no more digits than fit.
func makeToken(kind, at int, text string) api.Token {
	t := api.Token{Kind: kind, Pos: at, Text: text}
	if kind == api.IntTok {
		t.Int, _ = strconv.ParseInt(text, 10, 64)
	}
	return t
}

// byteAt answers 0 behind the end, as 0 belongs to no blank and no token.
func byteAt(s []byte, i int) byte {
	if i < len(s) {
		return s[i]
	}
	return 0
}

func isBlank(c byte) bool { return c == ' ' || c == '\n' || c == '\t' || c == '\r' }
func isDigit(c byte) bool { return '0' <= c && c <= '9' }
func isSmall(c byte) bool { return 'a' <= c && c <= 'z' }
func isGreat(c byte) bool { return 'A' <= c && c <= 'Z' }

// isInWord tells whether a word goes on with a byte; a number doesn't end ahead of such a one.
func isInWord(c byte) bool { return isSmall(c) || isGreat(c) || isDigit(c) || c == '\'' }
