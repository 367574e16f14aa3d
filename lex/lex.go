// Package lex is layer 1: it splits source strings into tokens and tells where each one begins (chapter doc/01-lex.md).
package lex

import (
	"math"
	"strconv"
	"strings"
	"unicode/utf8"

	"malthouse/api"
)

// Class is what a rune is. Numbers that are no runes at all are ClassOther too.
func Class(r rune) int {
	switch r {
	case ' ', '\t', '\r', '\n':
		return api.ClassBlank
	case '"':
		return api.ClassQuote
	case '#':
		return api.ClassHash
	case '(', ')', '{', '}', ',', ';', ':', '=', '+', '-', '*', '/', '%', '<', '>', '!', '&', '|':
		return api.ClassSign
	}
	switch {
	case letter(r):
		return api.ClassLetter
	case digit(r):
		return api.ClassDigit
	}
	return api.ClassOther
}

func letter(r rune) bool {
	switch {
	case r >= 'a' && r <= 'z', r >= 'A' && r <= 'Z', r == '_':
		return true
	case r == 0xD7, r == 0xF7: // the signs of multiplication and division lie among the letters
		return false
	}
	return r >= 0xC0 && r <= 0x24F
}

func digit(r rune) bool {
	return r >= '0' && r <= '9'
}

// Name tells whether s is a name. (An invalid byte is met as U+FFFD, which is no letter.)
func Name(s string) bool {
	runes := 0
	for _, r := range s {
		if runes == api.MaxName || !letter(r) && (runes == 0 || !digit(r)) {
			return false
		}
		runes++
	}
	return runes > 0
}

// Number is the value of s, if it is a decimal number of at most 2^63 - 1.
func Number(s string) (int, bool) {
	if s == "" || s != "0" && strings.HasPrefix(s, "0") {
		return 0, false
	}
	n := 0
	for _, r := range s {
		if !digit(r) {
			return 0, false
		}
		d := int(r - '0')
		if n > (math.MaxInt-d)/10 { // n*10 + d would wrap round
			return 0, false
		}
		n = n*10 + d
	}
	return n, true
}

// Show is n in decimal.
func Show(n int) string {
	return strconv.Itoa(n)
}

// Fold is s with the bytes A to Z made small. It works on a copy of the bytes, so that invalid ones stay as they are.
func Fold(s string) string {
	b := []byte(s)
	for i, r := range s {
		if r >= 'A' && r <= 'Z' {
			b[i] += 'a' - 'A'
		}
	}
	return string(b)
}

// Quote is s in quotes, if Cut would read it back as a text.
func Quote(s string) (string, bool) {
	runes := 0
	for i, r := range s {
		if runes == api.MaxNote || r < ' ' || r == '"' || invalid(r, s[i:]) {
			return "", false
		}
		runes++
	}
	return "\"" + s + "\"", true
}

// invalid tells whether r, which the range found at the beginning of s, stands for an invalid byte: the range yields U+FFFD for one, but also where U+FFFD itself is written.
func invalid(r rune, s string) bool {
	return r == utf8.RuneError && !strings.HasPrefix(s, "\uFFFD")
}
