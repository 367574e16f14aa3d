package lex

import (
	"math"
	"strings"
	"testing"

	"malthouse/api"
)

// badTexts are strings whose byte number 1 is the first invalid one.
var badTexts = map[string]string{
	"a lone byte":                            "a\xff",
	"a continuation without a beginning":     "a\x80b",
	"an encoding that ends too early":        "a\xe2\x82",
	"an encoding that is broken off":         "a\xe2\x82b\xac",
	"U+FFFD that is broken off":              "a\xef\xbf",
	"/ in two bytes":                         "a\xc0\xaf",
	"DEL in two bytes":                       "a\xc1\xbf",
	"U+00E9 in three bytes":                  "a\xe0\x83\xa9",
	"U+07FF in three bytes":                  "a\xe0\x9f\xbf",
	"U+FFFF in four bytes":                   "a\xf0\x8f\xbf\xbf",
	"U+D800":                                 "a\xed\xa0\x80",
	"U+DBFF":                                 "a\xed\xaf\xbf",
	"U+DC00":                                 "a\xed\xb0\x80",
	"U+DFFF":                                 "a\xed\xbf\xbf",
	"a pair of U+D83D and U+DE00":            "a\xed\xa0\xbd\xed\xb8\x80",
	"U+110000":                               "a\xf4\x90\x80\x80",
	"U+1FFFFF":                               "a\xf7\xbf\xbf\xbf",
	"five bytes":                             "a\xf8\x88\x80\x80\x80",
	"six bytes":                              "a\xfc\x84\x80\x80\x80\x80",
	"a byte 254":                             "a\xfe",
	"a continuation ahead of a valid U+FFFD": "a\xbe\uFFFD",
}

// classOf says P1.1 once more, from lists.
func classOf(r rune) int {
	switch {
	case r < 0 || r > 0x24F:
		return api.ClassOther
	case r == '"':
		return api.ClassQuote
	case r == '#':
		return api.ClassHash
	case strings.ContainsRune(" \t\r\n", r):
		return api.ClassBlank
	case strings.ContainsRune("(){},;:=+-*/%<>!&|", r):
		return api.ClassSign
	case strings.ContainsRune("0123456789", r):
		return api.ClassDigit
	case strings.ContainsRune("abcdefghijklmnopqrstuvwxyzABCDEFGHIJKLMNOPQRSTUVWXYZ_", r):
		return api.ClassLetter
	case r >= 0xC0 && r != 0xD7 && r != 0xF7:
		return api.ClassLetter
	}
	return api.ClassOther
}

func TestClassOfEveryRune(t *testing.T) {
	for r := rune(-300); r <= 0x110100; r++ {
		if got, want := Class(r), classOf(r); got != want {
			t.Errorf("Class(%#x) = %d, not %d", r, got, want)
		}
	}
	for _, r := range []rune{math.MinInt32, math.MinInt32 + 'a', math.MaxInt32, 0x110000, 0x200041} {
		if got := Class(r); got != api.ClassOther {
			t.Errorf("Class(%#x) = %d", r, got)
		}
	}
}

func TestClassAtTheEdges(t *testing.T) {
	for _, c := range []struct {
		r    rune
		want int
	}{
		{0xBF, 0}, {0xC0, 2}, {0xD6, 2}, {0xD7, 0}, {0xD8, 2}, {0xF6, 2}, {0xF7, 0}, {0xF8, 2}, {0x24F, 2}, {0x250, 0},
		{'@', 0}, {'A', 2}, {'Z', 2}, {'[', 0}, {'`', 0}, {'a', 2}, {'z', 2}, {'_', 2}, {'~', 0},
		{'/', 4}, {'0', 3}, {'9', 3}, {':', 4}, {'"', 5}, {'#', 6}, {'$', 0}, {'\'', 0}, {'.', 0}, {'[', 0}, {'?', 0}, {'^', 0}, {'\\', 0},
		{0, 0}, {'\t', 1}, {'\n', 1}, {'\v', 0}, {'\f', 0}, {'\r', 1}, {' ', 1}, {0x7F, 0}, {0x85, 0}, {0xA0, 0}, {0x2028, 0}, {0x3000, 0},
		{0x660, 0}, {0xFF11, 0}, {0x3B1, 0}, {0xD800, 0}, {0xDFFF, 0}, {0xFEFF, 0}, {0xFFFD, 0}, {0x10FFFF, 0}, {-1, 0},
	} {
		if got := Class(c.r); got != c.want {
			t.Errorf("Class(%#x) = %d, not %d", c.r, got, c.want)
		}
	}
}

func TestName(t *testing.T) {
	for _, s := range []string{
		"a", "_", "Z9", "é_1", "ÀÖØöøɏ", "x0123456789_", "ɏɏɏɏɏɏɏɏɏɏɏɏ", "____________",
	} {
		if !Name(s) {
			t.Errorf("%q is a name", s)
		}
	}
	for _, s := range []string{
		"", "1", "1a", "0", " a", "a ", "a\n", "a b", "a-b", "a.", "×", "a×", "a÷", "¿", "ɐ", "aɐ", "a\x00", "\"a\"", "#", "α", "a\uFFFD",
		"aaaaaaaaaaaaa", "ɏɏɏɏɏɏɏɏɏɏɏɏɏ", "x0123456789_1", strings.Repeat("a", 100000),
		"\xff", "\xc3", "a\xc3", "\xc3\xc3\xa9",
	} {
		if Name(s) {
			t.Errorf("%q is no name", s)
		}
	}
	for what, s := range badTexts {
		if Name(s) {
			t.Errorf("%s: %q is no name", what, s)
		}
	}
}

func TestNumber(t *testing.T) {
	for s, want := range map[string]int{
		"0": 0, "1": 1, "9": 9, "10": 10, "100": 100, "20": 20, "1234567890": 1234567890,
		"922337203685477580": 922337203685477580, "999999999999999999": 999999999999999999, "1000000000000000000": 1000000000000000000,
		"9223372036854775800": 9223372036854775800, "9223372036854775806": math.MaxInt64 - 1, "9223372036854775807": math.MaxInt64,
	} {
		if n, ok := Number(s); n != want || !ok {
			t.Errorf("Number(%q) = %d %v", s, n, ok)
		}
	}
	for _, s := range []string{
		"", "00", "01", "007", "0a", "1a", "a", "-1", "+1", "-0", " 1", "1 ", "1\n", "1_000", "1.0", "0x1", "1e3", "٣", "1٣", "１", "1\xff", "\x80",
		"9223372036854775808", "9223372036854775809", "9223372036854775810", "9223372036854775817", "9300000000000000000",
		"09223372036854775807", "10000000000000000000", "18446744073709551615", "18446744073709551616", "18446744073709551617",
		"36893488147419103233", strings.Repeat("9", 100000), strings.Repeat("0", 100000),
	} {
		if n, ok := Number(s); n != 0 || ok {
			t.Errorf("Number(%.30q) = %d %v", s, n, ok)
		}
	}
}

func TestShow(t *testing.T) {
	for n, want := range map[int]string{
		0: "0", 1: "1", -1: "-1", 9: "9", 10: "10", -10: "-10", 100: "100", -305: "-305", 1 << 40: "1099511627776",
		math.MaxInt64: "9223372036854775807", math.MinInt64: "-9223372036854775808", math.MinInt64 + 1: "-9223372036854775807",
	} {
		if got := Show(n); got != want {
			t.Errorf("Show(%d) = %q", n, got)
		}
	}
}

func TestFold(t *testing.T) {
	for s, want := range map[string]string{
		"": "", "aÉZ": "aÉz", "Malt HOUSE 9": "malt house 9", "@AZ[`az{": "@az[`az{",
		"ÀÖØ": "ÀÖØ", "\u212A\u0130": "\u212A\u0130", "\uFFFDQ": "\uFFFDq", "A\xffB": "a\xffb", "\xc3A\xe2\x82B\xed\xa0\x80C": "\xc3a\xe2\x82b\xed\xa0\x80c",
	} {
		if got := Fold(s); got != want {
			t.Errorf("Fold(%q) = %q, not %q", s, got, want)
		}
	}
	for b := 0; b < 256; b++ {
		want := byte(b)
		if b >= 65 && b <= 90 {
			want = byte(b + 32)
		}
		if got := Fold(string([]byte{byte(b)})); got != string([]byte{want}) {
			t.Errorf("Fold of the byte %d is %q", b, got)
		}
	}
}

func TestQuote(t *testing.T) {
	for _, s := range []string{
		"", "a", " ", "é", "a # b", "it's", "\x7f", "\u0085", "\u2028", "\uFFFD", "\U0010FFFF", "\\n", "$",
		strings.Repeat("a", 20), strings.Repeat("é", 20), strings.Repeat("\U0010FFFF", 20), strings.Repeat("\uFFFD", 20),
	} {
		if q, ok := Quote(s); !ok || q != `"`+s+`"` {
			t.Errorf("Quote(%q) = %q %v", s, q, ok)
		}
	}
	wrong := []string{
		`"`, `a"`, `"a"`, "\n", "a\nb", "\t", "\r", "\x00", "a\x1f", strings.Repeat("a", 19) + "\x1f",
		strings.Repeat("a", 21), strings.Repeat("é", 21), strings.Repeat("\uFFFD", 21), strings.Repeat("a", 100000),
		"\uFFFD\xff", "\xff\uFFFD", "\x80",
	}
	for _, s := range badTexts {
		wrong = append(wrong, s)
	}
	for _, s := range wrong {
		if q, ok := Quote(s); ok || q != "" {
			t.Errorf("Quote(%.40q) = %q %v", s, q, ok)
		}
	}
}

func TestNumberOfShow(t *testing.T) {
	check := func(n int) {
		if got, ok := Number(Show(n)); !ok || got != n {
			t.Errorf("Number(Show(%d)) = %d %v", n, got, ok)
		}
	}
	for n := 0; n < 20000; n++ {
		check(n)
		check(math.MaxInt64 - n)
	}
	for power := 1; power > 0; power <<= 1 {
		check(power - 1)
		check(power)
	}
	for power := 1; power <= math.MaxInt64/10; power *= 10 {
		check(power*10 - 1)
		check(power * 10)
	}
	for _, n := range []int{-1, math.MinInt64} {
		if got, ok := Number(Show(n)); ok || got != 0 {
			t.Errorf("Number(Show(%d)) = %d %v", n, got, ok)
		}
	}
}
