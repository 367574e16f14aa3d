package expr

import (
	"math"
	"math/rand"
	"reflect"
	"slices"
	"strings"
	"testing"

	"malthouse/api"
	"malthouse/lex"
)

func num(n int) api.Expr      { return api.Expr{Op: api.ExNum, N: n} }
func nam(s string) api.Expr   { return api.Expr{Op: api.ExName, Name: s} }
func neg(e api.Expr) api.Expr { return api.Expr{Op: api.ExNeg, Kids: []api.Expr{e}} }
func not(e api.Expr) api.Expr { return api.Expr{Op: api.ExNot, Kids: []api.Expr{e}} }
func bin(a api.Expr, op int, b api.Expr) api.Expr {
	return api.Expr{Op: op, Kids: []api.Expr{a, b}}
}

func expectTree(t *testing.T, s string, want api.Expr) {
	t.Helper()
	e, f, at := Parse(s)
	if f != api.OK || at != 0 || !same(e, want) {
		t.Errorf("Parse(%.80q) = %s %d %d, not %s", s, everyParenthesis(e), f, at, everyParenthesis(want))
	}
}

func expectFault(t *testing.T, s string, want api.Errno, wantAt int) {
	t.Helper()
	e, f, at := Parse(s)
	if f != want || at != wantAt || !zero(e) {
		t.Errorf("Parse(%.80q) = %s %d %d, not %d %d", s, everyParenthesis(e), f, at, want, wantAt)
	}
}

func cut(s string) []api.Token {
	l, f, _ := lex.Cut(s)
	if f != api.OK {
		panic(s)
	}
	return l
}

func TestParseOfLeaves(t *testing.T) {
	expectTree(t, "0", num(0))
	expectTree(t, "9223372036854775807", num(math.MaxInt64))
	expectTree(t, "x", nam("x"))
	expectTree(t, "ɏɏɏɏɏɏɏɏɏɏɏɏ", nam("ɏɏɏɏɏɏɏɏɏɏɏɏ"))
	expectTree(t, " \t(\n( _9 ) # remark )\n)", nam("_9"))
	expectTree(t, "-1", neg(num(1)))
	expectTree(t, "-9223372036854775807", neg(num(math.MaxInt64)))
	expectTree(t, "--x", neg(neg(nam("x"))))
	expectTree(t, "!-!x", not(neg(not(nam("x")))))
	expectTree(t, "!!0", not(not(num(0))))
}

func TestParseOfEachOperator(t *testing.T) {
	a, b, c := nam("a"), nam("b"), nam("c")
	for op := api.ExAdd; op <= api.ExOr; op++ {
		s := signs[op]
		expectTree(t, "a"+s+"b", bin(a, op, b))
		expectTree(t, "a "+s+" (b "+s+" c)", bin(a, op, bin(b, op, c)))
		expectTree(t, "(a "+s+" b) "+s+" c", bin(bin(a, op, b), op, c))
		expectTree(t, "-a "+s+"-b", bin(neg(a), op, neg(b)))
		expectTree(t, "! a "+s+" ! b", bin(not(a), op, not(b)))
		if rank(op) != 3 {
			expectTree(t, "a "+s+" b "+s+" c", bin(bin(a, op, b), op, c))
		}
	}
}

func TestParseOfEachTwoOperators(t *testing.T) {
	a, b, c := nam("a"), nam("b"), nam("c")
	for one := api.ExAdd; one <= api.ExOr; one++ {
		for two := api.ExAdd; two <= api.ExOr; two++ {
			s := "a " + signs[one] + " b " + signs[two] + " c"
			switch {
			case rank(one) == 3 && rank(two) == 3:
				expectFault(t, s, api.ErrToken, 5+len(signs[one]))
			case rank(one) >= rank(two):
				expectTree(t, s, bin(bin(a, one, b), two, c))
			default:
				expectTree(t, s, bin(a, one, bin(b, two, c)))
			}
		}
	}
}

func TestParseOfComparisonsThatAreNotChained(t *testing.T) {
	a, b, c, d := nam("a"), nam("b"), nam("c"), nam("d")
	expectTree(t, "a < b & c < d", bin(bin(a, api.ExLt, b), api.ExAnd, bin(c, api.ExLt, d)))
	expectTree(t, "a == b | c != d", bin(bin(a, api.ExEq, b), api.ExOr, bin(c, api.ExNe, d)))
	expectTree(t, "(a < b) < (c < d)", bin(bin(a, api.ExLt, b), api.ExLt, bin(c, api.ExLt, d)))
	expectFault(t, "a < b < c", api.ErrToken, 6)
	expectFault(t, "a + 1 < b * 2 + 1 >= c", api.ErrToken, 18)
	expectFault(t, "a & b < c == d", api.ErrToken, 10)
	expectFault(t, "(a < b < c)", api.ErrToken, 7)
	expectFault(t, "!(a < b == c)", api.ErrToken, 8)
}

func TestParseOfFaults(t *testing.T) {
	for s, at := range map[string]int{
		"": 0, "  ": 2, "# x": 3, "1 < 2 < 3": 6, "(1": 2, "(": 1, "()": 1, ")": 0, "1)": 1, "1 2": 2, "x y": 2, "x 1": 2, "1 +": 3, "+1": 0,
		"é + + é": 4, "* x": 0, "x -": 3, "x - -": 5, "!": 1, "x !": 2, "x ! y": 2, "-": 1, "x = 1": 2, "x := 1": 2, "{x}": 0, "x, y": 1,
		"x; y": 1, "f(x)": 1, "(x)(y)": 3, "(x) y": 4, "\"x\"": 0, "x + \"y\"": 4, "x \"+\" y": 2, "1 & & 2": 4, "x <> y": 3, "x && y": 3, "((x)": 4,
		"x == = 1": 5, ":": 0, "é # x\n é": 7,
	} {
		expectFault(t, s, api.ErrToken, at)
	}
	expectFault(t, "x + 007", api.ErrToken, 4)
	expectFault(t, "1 + 9223372036854775808", api.ErrToken, 4)
	expectFault(t, "x + abcdefghijklm", api.ErrLong, 4)
	expectFault(t, "x + é\xff", api.ErrText, 5)
	expectFault(t, repeat(" ", 8193), api.ErrLong, 0)
	expectFault(t, repeat(") ", 2001), api.ErrLong, 4000)
	expectFault(t, ") $", api.ErrToken, 2) // lex.Cut comes first
	expectFault(t, repeat("-", 65)+"$", api.ErrToken, 65)
}

func TestParseOfLongTexts(t *testing.T) {
	most := "1" + repeat(" + 1", 31) // 63 tokens
	expectFault(t, most+" +", api.ErrToken, len(most)+2)
	expectFault(t, most+" + 1", api.ErrLong, len(most)+3)
	expectFault(t, most+" + )", api.ErrToken, len(most)+3)
	expectFault(t, most+" )", api.ErrToken, len(most)+1)
	expectFault(t, most+" - x 2 $", api.ErrToken, len(most)+7)
	expectFault(t, most+" - x 2 ;", api.ErrLong, len(most)+3)
	negative := repeat("-", 63) + "é" // 64 tokens
	if e, f, at := Parse(negative); f != api.OK || at != 0 || Print(e) != negative {
		t.Errorf("64 tokens: %d %d", f, at)
	}
	for _, s := range []string{"+", "<", "&", "|", "*", "+ 1", "!="} {
		expectFault(t, negative+s, api.ErrLong, 64)
	}
	for _, s := range []string{")", "x", "1", "!", ";", "(", "\"\"", ":=", "="} {
		expectFault(t, negative+" "+s, api.ErrToken, 65)
	}
	expectFault(t, "-"+negative, api.ErrLong, 64)
	expectFault(t, "-"+negative[:63]+")", api.ErrToken, 64)
	expectFault(t, "-"+negative[:63]+"!", api.ErrLong, 64)
	expectFault(t, "-"+negative[:63]+"(", api.ErrLong, 64)
	expectFault(t, "-"+negative[:63]+"*", api.ErrToken, 64)
	expectFault(t, "-"+negative[:63], api.ErrToken, 64)
	expectTree(t, repeat("(", 31)+"x"+repeat(")", 31), nam("x"))
	expectFault(t, repeat("(", 32)+"x"+repeat(")", 32), api.ErrLong, 64)
	expectFault(t, repeat("(", 32)+"x"+repeat(")", 31), api.ErrToken, 64)
	expectFault(t, repeat("(", 64), api.ErrToken, 64)
	expectFault(t, repeat("(", 65), api.ErrLong, 64)
	expectFault(t, repeat("-", 2000), api.ErrLong, 64)
	compared := repeat("-", 60) + "a <-b" // 64 tokens, a comparison that is not continued by another one
	expectFault(t, compared+"< c", api.ErrToken, len(compared))
	expectFault(t, compared+"& c", api.ErrLong, len(compared))
}

func TestTake(t *testing.T) {
	l := cut("x := 1 + y * (2); z < 1 < w")
	for at, want := range []struct {
		printed string
		f       api.Errno
		next    int
	}{
		{"x", api.OK, 1}, {"", api.ErrToken, 1}, {"1 + y * 2", api.OK, 9}, {"", api.ErrToken, 3}, {"y * 2", api.OK, 9}, {"", api.ErrToken, 5}, {"2", api.OK, 9},
		{"2", api.OK, 8}, {"", api.ErrToken, 8}, {"", api.ErrToken, 9}, {"z < 1", api.OK, 13}, {"", api.ErrToken, 11}, {"1 < w", api.OK, 15},
		{"", api.ErrToken, 13}, {"w", api.OK, 15}, {"", api.ErrToken, 15}, {"", api.ErrToken, 16}, {"", api.ErrToken, 17},
	} {
		e, f, next := Take(l, at)
		if f != want.f || next != want.next || f == api.OK && text(e) != want.printed || f != api.OK && !zero(e) {
			t.Errorf("Take at %d = %+v %d %d, not %v", at, e, f, next, want)
		}
	}
}

func TestTakeBeyondTheTokens(t *testing.T) {
	for _, l := range [][]api.Token{nil, {}, cut("x"), cut("1 + 2")} {
		for _, at := range []int{-1, -2, math.MinInt64, len(l), len(l) + 1, math.MaxInt64} {
			if e, f, next := Take(l, at); f != api.ErrToken || next != at || !zero(e) {
				t.Errorf("Take at %d of %d = %d %d", at, len(l), f, next)
			}
		}
	}
}

func TestTakeWithoutAnEnd(t *testing.T) {
	for s, want := range map[string]struct {
		f    api.Errno
		next int
	}{"x": {api.OK, 1}, "x +": {api.ErrToken, 2}, "(x": {api.ErrToken, 2}, "-": {api.ErrToken, 1}, "x < 1": {api.OK, 3}, "x <": {api.ErrToken, 2}} {
		l := cut(s)
		if _, f, next := Take(l[:len(l)-1], 0); f != want.f || next != want.next {
			t.Errorf("Take of %q = %d %d", s, f, next)
		}
	}
	most := cut(repeat("-", 63) + "x")
	if _, f, next := Take(most[:64], 0); f != api.OK || next != 64 {
		t.Errorf("64 tokens: %d %d", f, next)
	}
}

func TestTakeOfTokensThatAreNone(t *testing.T) {
	plus := api.Token{Kind: api.TokSign, Text: "+"}
	one := api.Token{Kind: api.TokNumber, N: 1}
	for _, bad := range []api.Token{
		{}, {Kind: api.TokEnd, Text: "1"}, {Kind: -1, Text: "x"}, {Kind: 5, Text: "x"}, {Kind: math.MaxInt64, Text: "-"}, {Kind: api.TokText, Text: "x"},
		{Kind: api.TokNumber, N: -1}, {Kind: api.TokNumber, N: math.MinInt64}, {Kind: api.TokName}, {Kind: api.TokName, Text: "1"},
		{Kind: api.TokName, Text: "abcdefghijklm"}, {Kind: api.TokName, Text: "\xff"}, {Kind: api.TokName, Text: "+"}, {Kind: api.TokSign},
		{Kind: api.TokSign, Text: "x"}, {Kind: api.TokSign, Text: "+-"}, {Kind: api.TokSign, Text: "1", N: 1},
	} {
		if e, f, next := Take([]api.Token{one, plus, bad, one}, 0); f != api.ErrToken || next != 2 || !zero(e) {
			t.Errorf("%+v: %+v %d %d", bad, e, f, next)
		}
		if e, f, next := Take([]api.Token{one, bad, one}, 0); f != api.OK || next != 1 || !same(e, num(1)) {
			t.Errorf("behind a number, %+v: %+v %d %d", bad, e, f, next)
		}
	}
}

func TestTakeLeavesTheTokensAlone(t *testing.T) {
	l := cut("1 + x * (2 - y)")
	was := slices.Clone(l)
	e, _, _ := Take(l, 0)
	if !slices.Equal(l, was) {
		t.Errorf("the tokens were changed")
	}
	for i := range l {
		l[i] = api.Token{}
	}
	if text(e) != "1 + x * (2 - y)" {
		t.Errorf("the tree was changed with the tokens: %s", text(e))
	}
}

// expectReference holds Take against the second reading of the chapter.
func expectReference(t *testing.T, l []api.Token, at int) bool {
	t.Helper()
	e, f, next := Take(l, at)
	want, wantF, wantNext := referenceTake(l, at)
	if f != wantF || next != wantNext || !same(e, want) {
		t.Errorf("Take(%v, %d) = %s %d %d, not %s %d %d", l, at, everyParenthesis(e), f, next, everyParenthesis(want), wantF, wantNext)
		return false
	}
	return true
}

// TestTakeOfAllShortLists goes through all lists of up to five tokens, with one sign for each that acts alike.
func TestTakeOfAllShortLists(t *testing.T) {
	kinds := cut("1 x ( ) + * < & | - ! ;")
	kinds = append(kinds[:len(kinds)-1], api.Token{Kind: api.TokText, Text: "x"})
	var grow func(l []api.Token) bool
	grow = func(l []api.Token) bool {
		if len(l) > 0 && !expectReference(t, l, 0) {
			return false
		}
		for _, k := range kinds {
			if len(l) < 5 && !grow(append(l, k)) {
				return false
			}
		}
		return true
	}
	grow(nil)
}

func TestTakeOfRandomLists(t *testing.T) {
	random := rand.New(rand.NewSource(3))
	kinds := cut("1 x - ! ( ( + - * / % < <= > >= == != & | ) ) y 2 ; = \"x\"")
	for range 30000 {
		l := cut(everyParenthesis(someTree(random, 1+random.Intn(30))))
		for range random.Intn(3) {
			at := random.Intn(len(l))
			k := kinds[random.Intn(len(kinds))]
			switch random.Intn(3) {
			case 0:
				l[at] = k
			case 1:
				l = slices.Insert(l, at, k)
			default:
				l = slices.Delete(l, at, at+1)
			}
			if len(l) == 0 {
				break
			}
		}
		if !expectReference(t, l, random.Intn(len(l)+2)-1) {
			return
		}
	}
}

// TestTakeOfLikelyLists grows lists along the grammar, so that many reach the greatest length.
func TestTakeOfLikelyLists(t *testing.T) {
	random := rand.New(rand.NewSource(4))
	kinds := cut("1 x - ! ( + * < & | )")
	kinds = kinds[:len(kinds)-1]
	for range 5000 {
		w := walk{open: []bool{false}}
		var l []api.Token
		for len(l) < 60+random.Intn(10) {
			k := kinds[random.Intn(len(kinds))]
			before := walk{open: slices.Clone(w.open), whole: w.whole}
			if !w.continues(k) && random.Intn(200) > 0 {
				w = before
				continue
			}
			l = append(l, k)
		}
		if !expectReference(t, l, 0) {
			return
		}
	}
}

func TestParenthesesAndBlanksRoundAText(t *testing.T) {
	random := rand.New(rand.NewSource(5))
	for range 3000 {
		e := someTree(random, 1+random.Intn(12))
		for _, s := range []string{
			text(e), " \t\n" + text(e) + "\r ", "(" + text(e) + ")", " ( (# )\n" + text(e) + " )\n)", everyParenthesis(e),
			strings.ReplaceAll(text(e), " ", ""), strings.ReplaceAll(text(e), " ", "\n#\n"),
		} {
			if length(s) <= 64 {
				expectTree(t, s, e)
			}
		}
	}
}

func FuzzParse(f *testing.F) {
	for _, s := range []string{"1 + x * 2", "(1 - (2 - 3)) % 2", "!(x > 3 & x < 9) | 0", "1 < 2 < 3", "(1", "", "x == y != 1", "a \"b\""} {
		f.Add(s)
	}
	f.Fuzz(func(t *testing.T, s string) {
		e, fault, at := Parse(s)
		l, wantF, wantAt := lex.Cut(s)
		var want api.Expr
		if wantF == api.OK {
			next := 0
			want, wantF, next = referenceTake(l, 0)
			if wantF == api.OK && l[next].Kind != api.TokEnd {
				want, wantF = api.Expr{}, api.ErrToken
			}
			if wantF != api.OK {
				wantAt = l[next].At
			}
		}
		if fault != wantF || at != wantAt || !same(e, want) {
			t.Fatalf("Parse(%q) = %+v %d %d, not %+v %d %d", s, e, fault, at, want, wantF, wantAt)
		}
		if fault == api.OK && May(e) && !reflect.DeepEqual(e, parse(Print(e))) {
			t.Fatalf("%q is printed as %q", s, Print(e))
		}
	})
}
