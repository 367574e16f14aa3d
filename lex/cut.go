package lex

import (
	"strings"

	"malthouse/api"
)

// Cut is s as tokens, or what is wrong with it, and where.
func Cut(s string) ([]api.Token, api.Errno, int) {
	if len(s) > api.MaxText {
		return nil, api.ErrLong, 0
	}
	at := 0
	for i, r := range s {
		if invalid(r, s[i:]) {
			return nil, api.ErrText, at
		}
		at++
	}
	return tokens(s)
}

// tokens scans a string without invalid bytes.
func tokens(s string) ([]api.Token, api.Errno, int) {
	var list []api.Token
	at := 0   // runes ahead
	next := 0 // bytes that belong to what has been read already
	for i, r := range s {
		class := Class(r)
		switch {
		case i < next || class == api.ClassBlank:
		case class == api.ClassHash:
			next = i + remark(s[i:])
		case len(list) == api.MaxTokens: // ahead of every other error of the token
			return nil, api.ErrLong, at
		default:
			tok, size, e := token(class, s[i:])
			if e != api.OK {
				return nil, e, at
			}
			tok.At = at
			list = append(list, tok)
			next = i + size
		}
		at++
	}
	return append(list, api.Token{Kind: api.TokEnd, At: at}), api.OK, 0
}

// remark is how many bytes at the beginning of s stand ahead of the line feed.
func remark(s string) int {
	for i, r := range s {
		if r == '\n' {
			return i
		}
	}
	return len(s)
}

// token is the token at the beginning of s, whose first rune is of that class, and how many bytes its source has.
func token(class int, s string) (api.Token, int, api.Errno) {
	switch class {
	case api.ClassLetter:
		return name(s)
	case api.ClassDigit:
		return number(s)
	case api.ClassQuote:
		return text(s)
	case api.ClassSign:
		return sign(s)
	}
	return api.Token{}, 0, api.ErrToken
}

func name(s string) (api.Token, int, api.Errno) {
	w := word(s)
	if !Name(w) { // w is letters and digits behind a letter: only its length can be wrong
		return api.Token{}, 0, api.ErrLong
	}
	return api.Token{Kind: api.TokName, Text: w}, len(w), api.OK
}

func number(s string) (api.Token, int, api.Errno) {
	w := word(s)
	n, ok := Number(w)
	if !ok {
		return api.Token{}, 0, api.ErrToken
	}
	return api.Token{Kind: api.TokNumber, Text: w, N: n}, len(w), api.OK
}

// word is the longest sequence of letters and digits at the beginning of s.
func word(s string) string {
	for i, r := range s {
		if !letter(r) && !digit(r) {
			return s[:i]
		}
	}
	return s
}

// text reads to the end of a text even if it is too long, since ErrToken goes ahead of ErrLong.
func text(s string) (api.Token, int, api.Errno) {
	runes := 0
	for i, r := range s {
		switch {
		case i == 0: // the quote that begins it
		case r == '"' && runes > api.MaxNote:
			return api.Token{}, 0, api.ErrLong
		case r == '"':
			return api.Token{Kind: api.TokText, Text: s[1:i]}, i + 1, api.OK
		case r < ' ': // a line feed among them
			return api.Token{}, 0, api.ErrToken
		default:
			runes++
		}
	}
	return api.Token{}, 0, api.ErrToken
}

// sign is one rune, unless an equals sign behind it makes both one operator.
func sign(s string) (api.Token, int, api.Errno) {
	size := 1
	for _, pair := range [...]string{"<=", ">=", "==", "!=", ":="} {
		if strings.HasPrefix(s, pair) {
			size = len(pair)
		}
	}
	return api.Token{Kind: api.TokSign, Text: s[:size]}, size, api.OK
}
