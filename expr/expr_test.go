package expr

import (
	"math"
	"math/rand"
	"reflect"
	"slices"
	"testing"

	"malthouse/api"
	"malthouse/lex"
)

// badTrees are trees that are not well formed.
func badTrees() []api.Expr {
	x, one := nam("x"), num(1)
	l := []api.Expr{
		num(-1), num(math.MinInt64), {Op: api.ExNum, N: 1, Name: "x"}, {Op: api.ExNum, Kids: []api.Expr{one}}, {Op: api.ExNum, Name: "1"},
		nam(""), nam("1"), nam("x y"), nam("abcdefghijklm"), nam("\xff"), nam("x\xff"), nam("α"), nam("-"),
		{Op: api.ExName, Name: "x", N: 1}, {Op: api.ExName, Name: "x", N: -1}, {Op: api.ExName, Name: "x", Kids: []api.Expr{one}},
		{Op: -1}, {Op: api.ExOr + 1}, {Op: math.MaxInt64}, {Op: math.MinInt64}, {Op: api.ExOr + 1, Kids: []api.Expr{x, one}}, {Op: -1, Kids: []api.Expr{x}},
	}
	for op := api.ExNeg; op <= api.ExOr; op++ {
		good := api.Expr{Op: op, Kids: []api.Expr{x, one}}
		if op <= api.ExNot {
			good.Kids = good.Kids[:1]
		}
		for n := range 4 {
			if n != len(good.Kids) {
				l = append(l, api.Expr{Op: op, Kids: []api.Expr{x, one, x}[:n]})
			}
		}
		l = append(l, api.Expr{Op: op, N: 1, Kids: good.Kids}, api.Expr{Op: op, N: -1, Kids: good.Kids}, api.Expr{Op: op, Name: "x", Kids: good.Kids})
	}
	return l
}

func TestTreesThatAreNotWellFormed(t *testing.T) {
	env := []api.Cell{{Name: "x", N: 7}, {Name: "", N: 1}}
	for _, bad := range badTrees() {
		for _, e := range []api.Expr{bad, neg(bad), bin(num(1), api.ExAdd, bad), bin(bad, api.ExOr, num(1)), bin(nam("x"), api.ExLt, not(bad))} {
			if May(e) || Print(e) != "" || len(Names(e)) != 0 {
				t.Errorf("%+v: %t %q %v", e, May(e), Print(e), Names(e))
			}
			if n, f := Eval(e, env); n != 0 || f != api.ErrArg {
				t.Errorf("Eval(%+v) = %d %d", e, n, f)
			}
			if got, f := Fill(e, env); f != api.ErrArg || !zero(got) {
				t.Errorf("Fill(%+v) = %+v %d", e, got, f)
			}
		}
	}
}

// endless is a tree that contains itself; wide one whose operands stand for many more than it has in memory.
func endless(op int) api.Expr {
	kids := make([]api.Expr, operators[op].kids)
	for i := range kids {
		kids[i] = api.Expr{Op: op, Kids: kids}
	}
	return kids[0]
}

func wide(op, depth int) api.Expr {
	e := nam("x")
	for range depth {
		e = bin(e, op, e)
	}
	return e
}

func TestTreesWithoutEnd(t *testing.T) {
	deep := num(1)
	for range 100000 {
		deep = neg(deep)
	}
	many := api.Expr{Op: api.ExAdd, Kids: make([]api.Expr, 1<<20)}
	for _, e := range []api.Expr{endless(api.ExNeg), endless(api.ExAdd), endless(api.ExOr), endless(api.ExLt), wide(api.ExAdd, 60), wide(api.ExEq, 6), deep, many} {
		_, f := Eval(e, nil)
		filled, g := Fill(e, nil)
		if May(e) || Print(e) != "" || len(Names(e)) != 0 || f != api.ErrArg || g != api.ErrArg || !zero(filled) {
			t.Errorf("a tree without end may be")
		}
	}
}

func TestMayOfLongTrees(t *testing.T) {
	sum := num(1) // 63 tokens
	for range 31 {
		sum = bin(sum, api.ExAdd, num(1))
	}
	right := num(1) // 1 + (1 + (1 + ...)): each operator brings two parentheses, but for the innermost one
	for range 16 {
		right = bin(num(1), api.ExAdd, right)
	}
	for _, c := range []struct {
		what string
		e    api.Expr
		may  bool
	}{
		{"63 tokens", sum, true},
		{"66 tokens, for the parentheses", neg(sum), false},
		{"65 tokens", bin(sum, api.ExSub, num(1)), false},
		{"65 tokens, a lower operator", bin(sum, api.ExOr, num(1)), false},
		{"63 tokens on the right", right, true},
		{"65 tokens on the right", bin(num(1), api.ExOr, right), false},
		{"67 tokens on the right", bin(num(1), api.ExSub, right), false},
		{"66 tokens behind a sign", neg(right), false},
	} {
		if May(c.e) != c.may || (length(text(c.e)) <= 64) != c.may || (Print(c.e) != "") != c.may {
			t.Errorf("%s: %t", c.what, May(c.e))
		}
	}
	signs := nam("x")
	for n := 1; n < 70; n++ {
		if May(signs) != (n <= 64) {
			t.Errorf("%d tokens: %t", n, May(signs))
		}
		signs = not(signs)
	}
}

func TestPrint(t *testing.T) {
	a, b, c := nam("a"), nam("b"), nam("c")
	for want, e := range map[string]api.Expr{
		"0": num(0), "9223372036854775807": num(math.MaxInt64), "é": nam("é"), "--a": neg(neg(a)), "!-!a": not(neg(not(a))), "-1": neg(num(1)),
		"-(a + b)": neg(bin(a, api.ExAdd, b)), "!(a * b)": not(bin(a, api.ExMul, b)), "!(a < b)": not(bin(a, api.ExLt, b)), "-a * -b": bin(neg(a), api.ExMul, neg(b)),
		"a - --b": bin(a, api.ExSub, neg(neg(b))), "-(-a - b)": neg(bin(neg(a), api.ExSub, b)),
		"a - b - c": bin(bin(a, api.ExSub, b), api.ExSub, c), "a - (b - c)": bin(a, api.ExSub, bin(b, api.ExSub, c)),
		"a - (b + c)": bin(a, api.ExSub, bin(b, api.ExAdd, c)), "a * (b / c)": bin(a, api.ExMul, bin(b, api.ExDiv, c)), "a * b % c": bin(bin(a, api.ExMul, b), api.ExMod, c),
		"(a < b) < c": bin(bin(a, api.ExLt, b), api.ExLt, c), "a != (b >= c)": bin(a, api.ExNe, bin(b, api.ExGe, c)), "(a == b) <= (b > c)": bin(bin(a, api.ExEq, b), api.ExLe, bin(b, api.ExGt, c)),
		"a & b & c": bin(bin(a, api.ExAnd, b), api.ExAnd, c), "a & (b & c)": bin(a, api.ExAnd, bin(b, api.ExAnd, c)), "a | (b | c)": bin(a, api.ExOr, bin(b, api.ExOr, c)),
		"a | b & c": bin(a, api.ExOr, bin(b, api.ExAnd, c)), "(a | b) & c": bin(bin(a, api.ExOr, b), api.ExAnd, c), "a < b & b < c": bin(bin(a, api.ExLt, b), api.ExAnd, bin(b, api.ExLt, c)),
		"(a & b) == c": bin(bin(a, api.ExAnd, b), api.ExEq, c), "a + b < c": bin(bin(a, api.ExAdd, b), api.ExLt, c), "a + (b < c)": bin(a, api.ExAdd, bin(b, api.ExLt, c)),
	} {
		if got := Print(e); got != want || !May(e) {
			t.Errorf("Print = %q, not %q", got, want)
		}
		expectTree(t, want, e)
	}
}

func TestPrintOfEachTwoOperators(t *testing.T) {
	x, y, z := nam("x"), nam("y"), nam("z")
	for outer := api.ExNeg; outer <= api.ExOr; outer++ {
		for inner := api.ExNeg; inner <= api.ExOr; inner++ {
			kid := api.Expr{Op: inner, Kids: []api.Expr{x, y}[:operators[inner].kids]}
			whole := []api.Expr{{Op: outer, Kids: []api.Expr{kid}}}
			if outer > api.ExNot {
				whole = []api.Expr{bin(kid, outer, z), bin(z, outer, kid)}
			}
			for _, e := range whole {
				if got := Print(e); got != text(e) {
					t.Errorf("Print = %q, not %q", got, text(e))
				}
			}
		}
	}
}

func TestPrintedTreesAreParsedAgain(t *testing.T) {
	random := rand.New(rand.NewSource(6))
	long := 0
	for range 30000 {
		e := someTree(random, 1+random.Intn(45))
		s := text(e)
		if length(s) > 64 {
			long++
			if May(e) || Print(e) != "" || len(Names(e)) != 0 {
				t.Fatalf("%q may be", s)
			}
			continue
		}
		was := deepCopy(e)
		if !May(e) || Print(e) != s {
			t.Fatalf("Print = %q, not %q", Print(e), s)
		}
		again, f, at := Parse(Print(e))
		if f != api.OK || at != 0 || !same(again, e) || !May(again) {
			t.Fatalf("%q: %d %d", s, f, at)
		}
		if !reflect.DeepEqual(e, was) {
			t.Fatalf("%q was changed", s)
		}
	}
	if long < 1000 || long > 29000 {
		t.Errorf("%d trees were long", long)
	}
}

// TestPrintedParenthesesAreNeeded leaves out each pair: the text then is of another tree, or of none.
func TestPrintedParenthesesAreNeeded(t *testing.T) {
	random := rand.New(rand.NewSource(7))
	for range 3000 {
		e := someTree(random, 1+random.Intn(12))
		s := Print(e)
		var open []int
		for i, r := range s {
			switch r {
			case '(':
				open = append(open, i)
			case ')':
				from := open[len(open)-1]
				open = open[:len(open)-1]
				if other, f, _ := Parse(s[:from] + s[from+1:i] + s[i+1:]); f == api.OK && same(other, e) {
					t.Fatalf("%q: the parenthesis at %d", s, from)
				}
			}
		}
	}
}

func TestNames(t *testing.T) {
	for s, want := range map[string][]string{
		"1": nil, "x": {"x"}, "b + a": {"a", "b"}, "x * x - !x": {"x"}, "b & B | _ < é * a9 + a": {"B", "_", "a", "a9", "b", "é"}, "z - (y - (x - z))": {"x", "y", "z"},
		"ab + a + aa": {"a", "aa", "ab"}, "-é == É": {"É", "é"},
	} {
		e := parse(s)
		was := deepCopy(e)
		if got := Names(e); !slices.Equal(got, want) || !reflect.DeepEqual(e, was) {
			t.Errorf("Names of %q = %v", s, got)
		}
	}
}

func TestNamesOfRandomTrees(t *testing.T) {
	random := rand.New(rand.NewSource(8))
	for range 5000 {
		e := someTree(random, 1+random.Intn(20))
		if !May(e) {
			continue
		}
		var want []string
		for _, k := range cut(Print(e)) {
			if k.Kind == api.TokName && !slices.Contains(want, k.Text) {
				want = append(want, k.Text)
			}
		}
		slices.Sort(want)
		if got := Names(e); !slices.Equal(got, want) {
			t.Fatalf("Names of %q = %v", Print(e), got)
		}
	}
}

// TestMayOfTreesThatWereSpoilt changes one field of a good tree, and holds May against the words of the chapter.
func TestMayOfTreesThatWereSpoilt(t *testing.T) {
	random := rand.New(rand.NewSource(9))
	good := 0
	for range 30000 {
		e := someTree(random, 1+random.Intn(12))
		at := &e
		for len(at.Kids) > 0 && random.Intn(4) > 0 {
			at = &at.Kids[random.Intn(len(at.Kids))]
		}
		switch random.Intn(5) {
		case 0:
			at.Op = random.Intn(20) - 1
		case 1:
			at.N = random.Intn(4) - 2
		case 2:
			at.Name = []string{"", "x", "1", "abcdefghijklm", "\xff"}[random.Intn(5)]
		case 3:
			at.Kids = append(at.Kids, num(1))
		default:
			at.Kids = at.Kids[:len(at.Kids)/2]
		}
		want := wellFormed(e) && length(text(e)) <= 64
		if May(e) != want {
			t.Fatalf("May(%+v) = %t", e, May(e))
		}
		if want {
			good++
		}
	}
	if good < 1000 {
		t.Errorf("only %d trees were good", good)
	}
}

func TestTheOpsAreNumberedAsTheChapterSays(t *testing.T) {
	for s, op := range map[string]int{
		"1": 0, "x": 1, "-x": 2, "!x": 3, "x + 1": 4, "x - 1": 5, "x * 1": 6, "x / 1": 7, "x % 1": 8, "x < 1": 9, "x <= 1": 10, "x > 1": 11, "x >= 1": 12,
		"x == 1": 13, "x != 1": 14, "x & 1": 15, "x | 1": 16,
	} {
		if e := parse(s); e.Op != op || Print(e) != s {
			t.Errorf("%s: %d", s, e.Op)
		}
	}
	if lex.Show(len(operators)) != "17" {
		t.Errorf("%d operators", len(operators))
	}
}
