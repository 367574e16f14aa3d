package lex

import (
	"math"
	"math/rand"
	"slices"
	"strings"
	"testing"
	"unicode/utf8"

	"malthouse/api"
)

func nameAt(s string, at int) api.Token { return api.Token{Kind: api.TokName, Text: s, At: at} }
func textAt(s string, at int) api.Token { return api.Token{Kind: api.TokText, Text: s, At: at} }
func signAt(s string, at int) api.Token { return api.Token{Kind: api.TokSign, Text: s, At: at} }
func endAt(at int) api.Token            { return api.Token{Kind: api.TokEnd, At: at} }
func numberAt(s string, n, at int) api.Token {
	return api.Token{Kind: api.TokNumber, Text: s, N: n, At: at}
}

func expectTokens(t *testing.T, s string, want ...api.Token) {
	t.Helper()
	got, e, at := Cut(s)
	if e != api.OK || at != 0 || !slices.Equal(got, want) {
		t.Errorf("Cut(%.60q) = %.300v %d %d, not %v", s, got, e, at, want)
	}
}

func expectError(t *testing.T, s string, e api.Errno, at int) {
	t.Helper()
	got, gotE, gotAt := Cut(s)
	if len(got) != 0 || gotE != e || gotAt != at {
		t.Errorf("Cut(%.60q) = %d tokens, %d %d, not %d %d", s, len(got), gotE, gotAt, e, at)
	}
}

func TestCutOfTheExamples(t *testing.T) {
	expectTokens(t, "a1 := 20 # x", nameAt("a1", 0), signAt(":=", 3), numberAt("20", 20, 6), endAt(12))
	expectTokens(t, `"é" é<=`, textAt("é", 0), nameAt("é", 4), signAt("<=", 5), endAt(7))
	for _, s := range []string{"007", "1a", `"a`, "$"} {
		expectError(t, s, api.ErrToken, 0)
	}
	expectError(t, "a b\xff", api.ErrText, 3)
	expectError(t, " aaaaaaaaaaaaa", api.ErrLong, 1)
}

func TestCutOfBlanksAndRemarks(t *testing.T) {
	expectTokens(t, "", endAt(0))
	expectTokens(t, " \t\r\n", endAt(4))
	expectTokens(t, "#", endAt(1))
	expectTokens(t, "# \x00 $ \"é 007 \uFFFD", endAt(14))
	expectTokens(t, "a#b", nameAt("a", 0), endAt(3))
	expectTokens(t, "1#b\n2", numberAt("1", 1, 0), numberAt("2", 2, 4), endAt(5))
	expectTokens(t, "#é\r#b\n\n#\nc", nameAt("c", 9), endAt(10))
	expectTokens(t, "##\n#\n", endAt(5))
	expectTokens(t, "\"#\"#\"\n\"\"", textAt("#", 0), textAt("", 6), endAt(8))
	expectTokens(t, "a\tb\rc\nd e", nameAt("a", 0), nameAt("b", 2), nameAt("c", 4), nameAt("d", 6), nameAt("e", 8), endAt(9))
}

func TestCutOfNames(t *testing.T) {
	expectTokens(t, "_", nameAt("_", 0), endAt(1))
	expectTokens(t, "éA_9ɏ(Ab)", nameAt("éA_9ɏ", 0), signAt("(", 5), nameAt("Ab", 6), signAt(")", 8), endAt(9))
	expectTokens(t, "abcdefghijkl", nameAt("abcdefghijkl", 0), endAt(12))
	expectTokens(t, "ɏɏɏɏɏɏɏɏɏɏɏɏ;", nameAt("ɏɏɏɏɏɏɏɏɏɏɏɏ", 0), signAt(";", 12), endAt(13))
	expectTokens(t, `a"b"c`, nameAt("a", 0), textAt("b", 1), nameAt("c", 4), endAt(5))
	expectError(t, "abcdefghijklm", api.ErrLong, 0)
	expectError(t, "ɏɏɏɏɏɏɏɏɏɏɏɏ0", api.ErrLong, 0)
	expectError(t, "é é abcdefghijkl1$", api.ErrLong, 4)
	expectError(t, "a×b", api.ErrToken, 1)
	expectError(t, "aaaaaaaaaaaaa×", api.ErrLong, 0)
	expectError(t, "÷", api.ErrToken, 0)
}

func TestCutOfNumbers(t *testing.T) {
	expectTokens(t, "0", numberAt("0", 0, 0), endAt(1))
	expectTokens(t, "é 9223372036854775807", nameAt("é", 0), numberAt("9223372036854775807", math.MaxInt64, 2), endAt(21))
	expectTokens(t, "-1", signAt("-", 0), numberAt("1", 1, 1), endAt(2))
	expectTokens(t, "-9223372036854775807", signAt("-", 0), numberAt("9223372036854775807", math.MaxInt64, 1), endAt(20))
	expectTokens(t, "1;2", numberAt("1", 1, 0), signAt(";", 1), numberAt("2", 2, 2), endAt(3))
	for _, s := range []string{"00", "01", "1_", "1é", "0x1", "9223372036854775808", "99999999999999999999", "1aaaaaaaaaaaaaaaa"} {
		expectError(t, s, api.ErrToken, 0)
		expectError(t, "é:="+s+" $", api.ErrToken, 3)
	}
	expectError(t, Show(math.MinInt64), api.ErrToken, 1)
	expectError(t, "1.5", api.ErrToken, 1)
}

func TestCutOfTexts(t *testing.T) {
	full := strings.Repeat("\U0010FFFF", 20)
	expectTokens(t, `""`, textAt("", 0), endAt(2))
	expectTokens(t, `"a b"`, textAt("a b", 0), endAt(5))
	expectTokens(t, `"007 $ 1a # x"`, textAt("007 $ 1a # x", 0), endAt(14))
	expectTokens(t, "\"\x7f\u0085\uFFFD×\"1", textAt("\x7f\u0085\uFFFD×", 0), numberAt("1", 1, 6), endAt(7))
	expectTokens(t, `"`+full+`"x`, textAt(full, 0), nameAt("x", 22), endAt(23))
	expectTokens(t, `"a""b"`, textAt("a", 0), textAt("b", 3), endAt(6))
	expectTokens(t, `"\"`, textAt(`\`, 0), endAt(3))
	expectError(t, `é"`+full+`1"`, api.ErrLong, 1)
	expectError(t, `é"`+full+`1`, api.ErrToken, 1)
	expectError(t, `é"`+full+"1\n\"", api.ErrToken, 1)
	expectError(t, `é"`+full+"1\x1f\"", api.ErrToken, 1)
	expectError(t, `"`, api.ErrToken, 0)
	expectError(t, `"""`, api.ErrToken, 2)
	expectError(t, "\"a\n\"", api.ErrToken, 0)
	for r := rune(0); r < ' '; r++ {
		expectError(t, "é \"a"+string(r)+"b\"", api.ErrToken, 2)
	}
}

func TestCutOfSigns(t *testing.T) {
	for _, s := range strings.Split("( ) { } , ; : = + - * / % < > ! & | <= >= == != :=", " ") {
		expectTokens(t, s, signAt(s, 0), endAt(len(s)))
		expectTokens(t, "é"+s+"é", nameAt("é", 0), signAt(s, 1), nameAt("é", 1+len(s)), endAt(2+len(s)))
	}
	expectTokens(t, "===", signAt("==", 0), signAt("=", 2), endAt(3))
	expectTokens(t, "====", signAt("==", 0), signAt("==", 2), endAt(4))
	expectTokens(t, "=!=", signAt("=", 0), signAt("!=", 1), endAt(3))
	expectTokens(t, "<>=<", signAt("<", 0), signAt(">=", 1), signAt("<", 3), endAt(4))
	expectTokens(t, "=< =", signAt("=", 0), signAt("<", 1), signAt("=", 3), endAt(4))
	expectTokens(t, "&&||+=-=", signAt("&", 0), signAt("&", 1), signAt("|", 2), signAt("|", 3),
		signAt("+", 4), signAt("=", 5), signAt("-", 6), signAt("=", 7), endAt(8))
	expectTokens(t, "<#\n=", signAt("<", 0), signAt("=", 3), endAt(4))
	expectTokens(t, "::==", signAt(":", 0), signAt(":=", 1), signAt("=", 3), endAt(4))
}

func TestCutOfOtherRunes(t *testing.T) {
	for _, s := range []string{
		"\x00", "\v", "\f", "\x1f", "\x7f", "$", "'", ".", "?", "@", "[", "\\", "]", "^", "`", "~",
		"\u0085", "\u00a0", "\u00bf", "\u00d7", "\u00f7", "\u0250", "α", "\u2028", "\u3000", "\ufeff", "\uFFFD", "😀", "\U0010FFFF",
	} {
		expectError(t, s, api.ErrToken, 0)
		expectError(t, "é\"é\"#\U0010FFFF\n"+s+" 007", api.ErrToken, 7)
	}
}

func TestCutOfLongStrings(t *testing.T) {
	expectTokens(t, strings.Repeat(" ", 8192), endAt(8192))
	expectTokens(t, "#"+strings.Repeat("é", 4095)+"x", endAt(4097))
	expectTokens(t, strings.Repeat("\n", 8191)+"a", nameAt("a", 8191), endAt(8192))
	expectError(t, strings.Repeat(" ", 8193), api.ErrLong, 0)
	expectError(t, "#"+strings.Repeat("é", 4096), api.ErrLong, 0)
	expectError(t, strings.Repeat("\xff", 8192), api.ErrText, 0)
	expectError(t, strings.Repeat("\xff", 8193), api.ErrLong, 0)
	expectError(t, "$"+strings.Repeat(" ", 8192), api.ErrLong, 0)
	expectError(t, strings.Repeat("a", 8192), api.ErrLong, 0)
	expectError(t, strings.Repeat("9", 8192), api.ErrToken, 0)
	expectError(t, `"`+strings.Repeat("a", 8191), api.ErrToken, 0)
}

func TestCutOfManyTokens(t *testing.T) {
	most := strings.Repeat(";", 2000)
	l, e, at := Cut(most)
	if e != api.OK || at != 0 || len(l) != 2001 || l[1999] != signAt(";", 1999) || l[2000] != endAt(2000) {
		t.Errorf("2000 tokens: %d %d %d", len(l), e, at)
	}
	if l, e, _ := Cut(most + " \n# x $ 007"); e != api.OK || len(l) != 2001 || l[2000] != endAt(2011) {
		t.Errorf("2000 tokens and a remark: %d %d", len(l), e)
	}
	for _, s := range []string{";", "a", "1", "\"a\"", "$", "007", "\"", "\"\n", "aaaaaaaaaaaaa", "\x00"} {
		expectError(t, most+s, api.ErrLong, 2000)
		expectError(t, most+" #é\n"+s+" $", api.ErrLong, 2004)
	}
	expectError(t, most[1:]+"$;", api.ErrToken, 1999)
	expectError(t, most[1:]+"$", api.ErrToken, 1999)
	expectError(t, strings.Repeat("é ", 2000)+"$", api.ErrLong, 4000)
	expectError(t, strings.Repeat("; ", 2001)+"\xff", api.ErrText, 4002)
}

func TestCutOfInvalidBytes(t *testing.T) {
	for what, s := range badTexts {
		if utf8.ValidString(s) {
			t.Errorf("%s: valid", what)
		}
		expectError(t, s, api.ErrText, 1)
		expectError(t, "é😀\uFFFD"+s, api.ErrText, 4)
		expectError(t, "$ 007 \""+s, api.ErrText, 8)
		expectError(t, "#"+s, api.ErrText, 2)
		expectError(t, "\""+s+"\"", api.ErrText, 2)
		expectError(t, "aaaaaaaaaaaaa "+s+"\xff", api.ErrText, 15)
	}
	for b := 0x80; b < 0x100; b++ {
		expectError(t, "é"+string([]byte{byte(b)}), api.ErrText, 1)
	}
}

func TestCutTellsErrorsInOrder(t *testing.T) {
	expectError(t, "007 $", api.ErrToken, 0)
	expectError(t, "aaaaaaaaaaaaa $", api.ErrLong, 0)
	expectError(t, "$ aaaaaaaaaaaaa", api.ErrToken, 0)
	expectError(t, "a $ aaaaaaaaaaaaa", api.ErrToken, 2)
	expectError(t, "a aaaaaaaaaaaaa $", api.ErrLong, 2)
}

// source writes tokens with a blank between them.
func source(l []api.Token, blank string) string {
	var parts []string
	for _, k := range l {
		switch k.Kind {
		case api.TokText:
			parts = append(parts, `"`+k.Text+`"`)
		case api.TokEnd:
		default:
			parts = append(parts, k.Text)
		}
	}
	return strings.Join(parts, blank)
}

// moved is the tokens with their positions moved by so many runes; unplaced has none.
func moved(l []api.Token, by int) []api.Token {
	l = slices.Clone(l)
	for i := range l {
		l[i].At += by
	}
	return l
}

func unplaced(l []api.Token) []api.Token {
	l = slices.Clone(l)
	for i := range l {
		l[i].At = 0
	}
	return l
}

// pieces are put together at random: among them are whole tokens, halves of some, and what is wrong.
var pieces = []string{
	" ", "  ", "\t", "\r", "\n", "#", "# é\n", "a", "é", "_9", "abcdef", "0", "7", "10", "92233720368547758", "\"", "\"é b\"", "\"\"",
	"(", ")", "{", "}", ",", ";", ":", "=", "+", "-", "*", "/", "%", "<", ">", "!", "&", "|", "<=", ">=", "==", "!=", ":=",
}

var wrongPieces = []string{"$", "\x00", "\x1f", "×", "😀", "\uFFFD", "\xff", "\xc3", "\xa9", "\xed\xa0\x80", "\xef\xbf", "01", "1a", "aaaaaaaaaaaaa"}

func someSource(random *rand.Rand, from []string) string {
	var b strings.Builder
	for range random.Intn(12) {
		b.WriteString(from[random.Intn(len(from))])
	}
	return b.String()
}

func TestTokensWrittenAndCutAgain(t *testing.T) {
	random := rand.New(rand.NewSource(1))
	good := 0
	for range 30000 {
		s := someSource(random, pieces)
		l, e, _ := Cut(s)
		if e != api.OK {
			continue
		}
		good++
		for _, blank := range []string{" ", "\n", "\t \r", " # é $ \"\n"} {
			again, e, at := Cut(source(l, blank))
			if e != api.OK || at != 0 || !slices.Equal(unplaced(again), unplaced(l)) {
				t.Fatalf("%q: %v, then %v %d %d", s, l, again, e, at)
			}
		}
	}
	if good < 5000 {
		t.Errorf("only %d sources were good", good)
	}
}

func TestTwoStringsJoined(t *testing.T) {
	random := rand.New(rand.NewSource(2))
	for range 30000 {
		a, b := someSource(random, pieces), someSource(random, pieces)
		la, ea, ata := Cut(a)
		lb, eb, atb := Cut(b)
		l, e, at := Cut(a + "\n" + b)
		ahead := utf8.RuneCountInString(a) + 1
		switch {
		case ea != api.OK:
			if e != ea || at != ata {
				t.Fatalf("%q %q: %d %d, not %d %d", a, b, e, at, ea, ata)
			}
		case eb != api.OK:
			if e != eb || at != atb+ahead {
				t.Fatalf("%q %q: %d %d, not %d %d", a, b, e, at, eb, atb+ahead)
			}
		default:
			want := append(slices.Clone(la[:len(la)-1]), moved(lb, ahead)...)
			if e != api.OK || at != 0 || !slices.Equal(l, want) {
				t.Fatalf("%q %q: %v %d %d, not %v", a, b, l, e, at, want)
			}
		}
	}
}

func TestTokensDoNotShareTheirList(t *testing.T) {
	a, _, _ := Cut("a b")
	b, _, _ := Cut("a b")
	a[0].Text, a[1].At = "z", 99
	_ = append(a[:1], api.Token{})
	if want := []api.Token{nameAt("a", 0), nameAt("b", 2), endAt(3)}; !slices.Equal(b, want) {
		t.Errorf("%v", b)
	}
}
