package lex

import (
	"math/big"
	"math/rand"
	"regexp"
	"slices"
	"testing"
	"unicode/utf8"

	"malthouse/api"
)

// The chapter once more, by patterns: what Cut answers is held against it.
const letters = `a-zA-Z_\x{C0}-\x{D6}\x{D8}-\x{F6}\x{F8}-\x{24F}`

var (
	skipPattern   = regexp.MustCompile(`^([ \t\r\n]+|#[^\n]*)+`)
	wordPattern   = regexp.MustCompile(`^[0-9` + letters + `]+`)
	digitsPattern = regexp.MustCompile(`^(0|[1-9][0-9]*)$`)
	namePattern   = regexp.MustCompile(`^[` + letters + `]`)
	textPattern   = regexp.MustCompile(`^"([^"\x00-\x1F]*)"`)
	signPattern   = regexp.MustCompile(`^([<>=!:]=|[(){},;:=+\-*/%<>!&|])`)
)

func referenceCut(s string) ([]api.Token, api.Errno, int) {
	if len(s) > 8192 {
		return nil, api.ErrLong, 0
	}
	for at, rest := 0, s; rest != ""; at++ {
		r, size := utf8.DecodeRuneInString(rest)
		if r == utf8.RuneError && size == 1 {
			return nil, api.ErrText, at
		}
		rest = rest[size:]
	}
	var l []api.Token
	for i := 0; ; {
		i += len(skipPattern.FindString(s[i:]))
		at := utf8.RuneCountInString(s[:i])
		if i == len(s) {
			return append(l, api.Token{At: at}), api.OK, 0
		}
		if len(l) == 2000 {
			return nil, api.ErrLong, at
		}
		k, size, e := referenceToken(s[i:])
		if e != api.OK {
			return nil, e, at
		}
		k.At = at
		l = append(l, k)
		i += size
	}
}

func referenceToken(s string) (api.Token, int, api.Errno) {
	word := wordPattern.FindString(s)
	if namePattern.MatchString(word) {
		if utf8.RuneCountInString(word) > 12 {
			return api.Token{}, 0, api.ErrLong
		}
		return api.Token{Kind: 1, Text: word}, len(word), api.OK
	}
	if word != "" {
		n, ok := new(big.Int).SetString(word, 10)
		if !digitsPattern.MatchString(word) || !ok || !n.IsInt64() {
			return api.Token{}, 0, api.ErrToken
		}
		return api.Token{Kind: 2, Text: word, N: int(n.Int64())}, len(word), api.OK
	}
	if m := textPattern.FindStringSubmatch(s); m != nil {
		if utf8.RuneCountInString(m[1]) > 20 {
			return api.Token{}, 0, api.ErrLong
		}
		return api.Token{Kind: 3, Text: m[1]}, len(m[0]), api.OK
	}
	if m := signPattern.FindString(s); m != "" {
		return api.Token{Kind: 4, Text: m}, len(m), api.OK
	}
	return api.Token{}, 0, api.ErrToken
}

func compareCut(t *testing.T, s string) {
	t.Helper()
	l, e, at := Cut(s)
	wantL, wantE, wantAt := referenceCut(s)
	if e != wantE || at != wantAt || !slices.Equal(l, wantL) {
		t.Fatalf("Cut(%q) = %v %d %d, not %v %d %d", s, l, e, at, wantL, wantE, wantAt)
	}
}

// compareWords holds the other calls against what Cut takes a whole string for.
func compareWords(t *testing.T, s string) {
	t.Helper()
	l, e, _ := referenceCut(s)
	alone := e == api.OK && len(l) == 2 && l[0].Text == s
	if got := Name(s); got != (alone && l[0].Kind == api.TokName) {
		t.Fatalf("Name(%q) = %v", s, got)
	}
	n, ok := Number(s)
	if ok != (alone && l[0].Kind == api.TokNumber) || ok && n != l[0].N || !ok && n != 0 {
		t.Fatalf("Number(%q) = %d %v", s, n, ok)
	}
	l, e, _ = referenceCut(`"` + s + `"`)
	text := e == api.OK && len(l) == 2 && l[0].Kind == api.TokText && l[0].Text == s
	q, ok := Quote(s)
	if ok != text || ok && q != `"`+s+`"` || !ok && q != "" {
		t.Fatalf("Quote(%q) = %q %v", s, q, ok)
	}
	folded := Fold(s)
	if len(folded) != len(s) || Fold(folded) != folded {
		t.Fatalf("Fold(%q) = %q", s, folded)
	}
}

func TestAllShortStrings(t *testing.T) {
	alphabet := []string{"a", "é", "0", "1", " ", "\n", "\t", "#", "\"", "=", "<", ":", "-", "×", "\xc3", "\xa9", "\uFFFD"}
	var grow func(s string, left int)
	grow = func(s string, left int) {
		compareCut(t, s)
		compareWords(t, s)
		if left == 0 {
			return
		}
		for _, c := range alphabet {
			grow(s+c, left-1)
		}
	}
	grow("", 4)
}

func TestRandomStrings(t *testing.T) {
	random := rand.New(rand.NewSource(3))
	all := append(slices.Clone(pieces), wrongPieces...)
	for range 30000 {
		s := someSource(random, all)
		compareCut(t, s)
		compareWords(t, s)
		b := make([]byte, random.Intn(24))
		random.Read(b)
		compareCut(t, string(b))
		compareWords(t, string(b))
	}
}

func FuzzCut(f *testing.F) {
	f.Add("a1 := 20 # x\n\"é\" é<=")
	f.Add("a b\xff")
	f.Fuzz(func(t *testing.T, s string) {
		compareCut(t, s)
		compareWords(t, s)
	})
}
