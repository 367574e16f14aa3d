package rung

import (
	"fmt"
	"math"
	"slices"
	"strings"
	"testing"

	"malthouse/api"
	"malthouse/expr"
)

// ins is an instruction with a bit, and with none if name is empty.
func ins(op int, name string) api.Ins { return api.Ins{Op: op, Name: name} }

// compare is a comparison of an expression, which is told by its text.
func compare(text string) api.Ins {
	e, f, _ := expr.Parse(text)
	if f != api.OK {
		panic(text)
	}
	return api.Ins{Op: api.InCmp, E: e}
}

func made(kind int, name string, code ...api.Ins) api.Rung {
	return api.Rung{Kind: kind, Name: name, Code: code}
}

// some are so many instructions that are alike.
func some(n int, in api.Ins) []api.Ins { return slices.Repeat([]api.Ins{in}, n) }

// join is lists of instructions, one after the other.
func join(l ...[]api.Ins) []api.Ins { return slices.Concat(l...) }

// many are so many rungs for different bits.
func many(n int) []api.Rung {
	l := make([]api.Rung, n)
	for i := range l {
		name := fmt.Sprint("b", i)
		l[i] = made(i%3, name, ins(api.InLd, name))
	}
	return l
}

// The names that exist in most tests.
var (
	someTags   = []string{"t", "v", "é"}
	somePhases = []string{"heat", "fill"}
)

func expectCheck(t *testing.T, want api.Errno, l ...api.Rung) {
	t.Helper()
	if e := Check(l, someTags, somePhases); e != want {
		t.Errorf("Check(%v): error %d, not %d", l, e, want)
	}
}

// expectCode checks a rung for the bit a, beside one for the bit b.
func expectCode(t *testing.T, want api.Errno, code ...api.Ins) {
	t.Helper()
	expectCheck(t, want, made(api.RungBit, "a", code...), made(api.RungReset, "b", ins(api.InLd, "b")))
}

func expectBits(t *testing.T, l []api.Rung, want ...string) {
	t.Helper()
	if got := Bits(l); !slices.Equal(got, want) {
		t.Errorf("Bits(%v) = %q, not %q", l, got, want)
	}
}

// P9.1: each kind of a rung, names twice, and the order.
func TestBits(t *testing.T) {
	expectBits(t, nil)
	expectBits(t, []api.Rung{})
	for kind := api.RungBit; kind <= api.RungReset; kind++ {
		expectBits(t, []api.Rung{made(kind, "a")}, "a")
	}
	for _, kind := range []int{api.RungHold, api.RungPerm, -1, 5, math.MinInt, math.MaxInt} {
		expectBits(t, []api.Rung{made(kind, "a")})
		expectBits(t, []api.Rung{made(kind, "a"), made(api.RungSet, "b"), made(kind, "c"), made(api.RungBit, "a")}, "b", "a")
	}
	expectBits(t, []api.Rung{made(0, "c"), made(1, "a"), made(2, "b"), made(0, "a"), made(1, "c"), made(2, "d"), made(0, "b")}, "c", "a", "b", "d")
	expectBits(t, []api.Rung{made(0, "a"), made(0, "A"), made(0, "á"), made(0, "a1"), made(0, "a")}, "a", "A", "á", "a1")
}

// P9.1: Bits does not ask whether rungs are valid, nor how many there are.
func TestBitsOfWrongRungs(t *testing.T) {
	expectBits(t, []api.Rung{made(0, ""), made(0, "1"), made(0, "\xff"), made(0, ""), made(0, "\xfe"), made(0, "abcdefghijklm")}, "", "1", "\xff", "\xfe", "abcdefghijklm")
	expectBits(t, []api.Rung{made(0, "a", ins(77, "x"), ins(api.InLd, "b"))}, "a")
	var want []string
	for i := range 100000 {
		want = append(want, fmt.Sprint("b", i))
	}
	expectBits(t, append(many(100000), many(100000)...), want...)
}

// P9.2: rungs of every kind, of every length, and as many as may be.
func TestCheckAccepts(t *testing.T) {
	expectCheck(t, api.OK)
	for n := range 13 {
		expectCheck(t, api.OK, many(n)...)
	}
	for _, name := range []string{"a", "_", "é", "X9_", "abcdefghijkl", "ɏɏɏɏɏɏɏɏɏɏɏɏ", "rung", "t", "heat"} {
		expectCheck(t, api.OK, made(api.RungBit, name, ins(api.InLdn, name)))
		expectCheck(t, api.OK, made(api.RungSet, name, ins(api.InLdn, name)), made(api.RungReset, name, ins(api.InLd, name)))
	}
	for _, name := range somePhases {
		expectCheck(t, api.OK, made(api.RungHold, name, compare("1")), made(api.RungPerm, name, compare("0")), made(api.RungHold, name, compare("1")))
	}
	for n := range 12 {
		expectCode(t, api.OK, join(some(1, ins(api.InLd, "a")), some(n, ins(api.InNot, "")))...)
	}
	for n := 1; n < 7; n++ {
		expectCode(t, api.OK, join(some(n, compare("t")), some(n-1, ins(api.InOrb, "")))...)
	}
	for op := api.InAnd; op <= api.InOrn; op++ {
		expectCode(t, api.OK, join(some(1, compare("t")), some(11, ins(op, "b")))...)
	}
	for _, text := range []string{"0", "t", "v + t * é", "-9223372036854775807 - 1", "1 / 0", strings.Repeat("(", 31) + "t" + strings.Repeat(")", 31), "t" + strings.Repeat("+t", 31)} {
		expectCode(t, api.OK, compare(text))
	}
}

// P9.2: a bit may be used in each rung, wherever the rungs stand that it is the name of.
func TestCheckFindsBitsOfAllRungs(t *testing.T) {
	for i := range 12 {
		for k := range 12 {
			l := many(12)
			l[i].Code = []api.Ins{ins(api.InLd, l[k].Name), ins(api.InAndn, l[k].Name)}
			expectCheck(t, api.OK, l...)
			l[k].Kind, l[k].Name = api.RungHold, "heat"
			expectCheck(t, api.ErrName, l...)
		}
	}
}

// wrong is rungs of which the first one is wrong.
type wrong struct {
	want api.Errno
	rung api.Rung
}

// wrongRungs are some with each error.
func wrongRungs() []wrong {
	good := ins(api.InLd, "b0")
	var all []wrong
	for _, kind := range []int{-1, 5, 6, math.MinInt, math.MaxInt} {
		all = append(all, wrong{api.ErrArg, made(kind, "heat", good)}, wrong{api.ErrArg, made(kind, "a", good)})
	}
	for _, name := range []string{"", "1", "1a", "a b", "a-b", " a", "a ", "abcdefghijklm", "ɏɏɏɏɏɏɏɏɏɏɏɏɏ", "\xff", "a\xff", "×", strings.Repeat("a", 100000)} {
		for kind := api.RungBit; kind <= api.RungPerm; kind++ {
			all = append(all, wrong{api.ErrArg, made(kind, name, good)})
		}
	}
	for _, name := range []string{"Heat", "hea", "heats", "b0", "t", "x"} {
		all = append(all, wrong{api.ErrName, made(api.RungHold, name, good)}, wrong{api.ErrName, made(api.RungPerm, name, good)})
	}
	for _, x := range wrongCodes() {
		for kind := api.RungBit; kind <= api.RungReset; kind++ {
			all = append(all, wrong{x.want, made(kind, "a", x.rung.Code...)})
		}
		all = append(all, wrong{x.want, made(api.RungHold, "heat", x.rung.Code...)}, wrong{x.want, made(api.RungPerm, "fill", x.rung.Code...)})
	}
	return all
}

// loop is a tree that contains itself.
func loop() api.Expr {
	e := api.Expr{Op: api.ExNot, Kids: make([]api.Expr, 1)}
	e.Kids[0] = e
	return e
}

// wrongExpressions are trees that are not valid.
func wrongExpressions() []api.Expr {
	x := api.Expr{Op: api.ExName, Name: "x"}
	all := []api.Expr{
		{Op: -1}, {Op: 17}, {Op: api.ExName}, {N: -1}, {Name: "t"}, {Op: api.ExName, Name: "1"}, {Op: api.ExNot}, {Op: api.ExAdd},
		{Op: api.ExAdd, Kids: []api.Expr{x}}, {Op: api.ExNot, Kids: []api.Expr{x, x}}, {Op: api.ExNot, N: 1, Kids: []api.Expr{x}}, {Kids: []api.Expr{x}}, loop(),
	}
	long := x
	for range 64 {
		long = api.Expr{Op: api.ExNeg, Kids: []api.Expr{long}}
	}
	return append(all, long)
}

// wrongCodes are those of rungs for which b0 is a bit, and x is none.
func wrongCodes() []wrong {
	ld, cmp, anb, orb, not := ins(api.InLd, "b0"), compare("t"), ins(api.InAnb, ""), ins(api.InOrb, ""), ins(api.InNot, "")
	var all []wrong
	add := func(want api.Errno, code ...api.Ins) { all = append(all, wrong{want, made(0, "", code...)}) }
	add(api.ErrLong, join(some(1, ld), some(12, not))...)
	add(api.ErrLong, make([]api.Ins, 1000)...)
	for _, op := range []int{-1, 10, 11, math.MinInt, math.MaxInt} {
		add(api.ErrArg, ins(op, ""))
		add(api.ErrArg, ld, ins(op, ""))
		add(api.ErrArg, ld, ins(op, "b0"))
	}
	for _, name := range []string{"x", "t", "heat", "", "B0", "b", "b00", " b0", "\xff"} {
		for op := api.InLd; op <= api.InOrn; op++ {
			if op != api.InCmp {
				add(api.ErrName, ld, ins(op, name))
			}
		}
	}
	for _, text := range []string{"x", "b0", "heat", "T", "t + x", "x + t", "0 & x", "é * e"} {
		add(api.ErrName, compare(text))
	}
	for _, e := range wrongExpressions() {
		add(api.ErrArg, api.Ins{Op: api.InCmp, E: e})
	}
	for op := api.InAnd; op <= api.InOrn; op++ {
		add(api.ErrArg, ins(op, "b0"))
		add(api.ErrArg, ins(op, "b0"), ld)
	}
	for _, code := range [][]api.Ins{nil, {anb}, {orb}, {not}, {not, ld}, {ld, anb}, {ld, orb}, {anb, ld, ld}, {ld, ld, anb, orb}, {ld, ld}, {ld, cmp}, {cmp, cmp, cmp, anb}, some(8, ld), some(9, ld), some(12, ld)} {
		add(api.ErrArg, code...)
	}
	return all
}

// P9.2: a wrong rung is found wherever it stands.
func TestCheckRefuses(t *testing.T) {
	for _, x := range wrongRungs() {
		for _, at := range []int{0, 1, 6, 11} {
			l := many(11)
			expectCheck(t, x.want, slices.Insert(l, at, x.rung)...)
		}
	}
}

// valid is an instruction with this Op that uses the bit b or the tag t, and needed how many elements it takes from the stack.
func valid(op int) api.Ins {
	switch op {
	case api.InCmp:
		return compare("t")
	case api.InAnb, api.InOrb, api.InNot:
		return ins(op, "")
	}
	return ins(op, "b")
}

func needed(op int) int {
	switch op {
	case api.InLd, api.InLdn, api.InCmp:
		return 0
	case api.InAnb, api.InOrb:
		return 2
	}
	return 1
}

// within is a code in which an instruction finds what it needs, and leaves one element.
func within(in api.Ins) []api.Ins {
	return append(some(needed(in.Op), ins(api.InLd, "a")), in)
}

// P9.2: a Name stands only where the Op uses it.
func TestCheckOfNamesThatAnOpDoesNotUse(t *testing.T) {
	for op := api.InLd; op <= api.InNot; op++ {
		expectCode(t, api.OK, within(valid(op))...)
		if valid(op).Name != "" {
			continue
		}
		for _, name := range []string{"a", "b", "t", "x", " ", "\xff"} {
			in := valid(op)
			in.Name = name
			expectCode(t, api.ErrArg, within(in)...)
		}
	}
	expectCode(t, api.ErrArg, ins(api.InCmp, "a"))
}

// P9.2: an E stands only where the Op uses it, and nothing of it stands elsewhere.
func TestCheckOfExpressionsThatAnOpDoesNotUse(t *testing.T) {
	extra := append(wrongExpressions(), compare("t").E, compare("1").E, compare("x").E, compare("t < 1").E, api.Expr{Kids: make([]api.Expr, 1)})
	empty := api.Expr{Kids: []api.Expr{}} // R6: as good as the zero value
	for op := api.InLd; op <= api.InNot; op++ {
		in := valid(op)
		in.E = empty
		expectCode(t, api.OK, within(in)...)
		for _, e := range extra {
			in.E = e
			if op != api.InCmp {
				expectCode(t, api.ErrArg, within(in)...)
			}
		}
	}
	expectCode(t, api.OK, api.Ins{Op: api.InCmp}) // the zero value is the number 0
}

// P9.2: the stack may have 8 elements. That no code of 12 instructions leads back from there to one element does not matter for which error comes first.
func TestCheckOfTheStack(t *testing.T) {
	unknown := []api.Ins{ins(api.InLd, "x"), ins(api.InLdn, "x"), compare("x"), ins(api.InAnd, "x"), ins(api.InOrn, "x")}
	for _, push := range []api.Ins{ins(api.InLd, "a"), ins(api.InLdn, "b"), compare("t"), {Op: api.InCmp}} {
		for _, next := range unknown {
			expectCode(t, api.ErrName, append(some(8, push), next)...)
			expectCode(t, api.ErrArg, append(some(9, push), next)...)
			expectCode(t, api.ErrName, append(some(8, push), ins(api.InNot, ""), ins(api.InAnd, "a"), next)...)
			expectCode(t, api.ErrName, append(some(8, push), ins(api.InOrb, ""), push, next)...)
			expectCode(t, api.ErrName, append(some(8, push), ins(api.InAnb, ""), push, next)...)
			expectCode(t, api.ErrArg, append(some(8, push), ins(api.InAnb, ""), push, push, next)...)
		}
	}
	for n := 1; n < 7; n++ {
		for pairs := range 8 {
			want := api.ErrArg
			if pairs == n-1 {
				want = api.OK
			}
			if n+pairs <= 12 {
				expectCode(t, want, join(some(n, ins(api.InLd, "a")), some(pairs, ins(api.InAnb, "")))...)
			}
		}
	}
}

// P9.2: an instruction finds the elements that it needs, or the code ends there.
func TestCheckOfMissingElements(t *testing.T) {
	for op := api.InLd; op <= api.InNot; op++ {
		for n := range 4 {
			want := api.ErrName
			if n < needed(op) {
				want = api.ErrArg
			}
			expectCode(t, want, append(some(n, ins(api.InLd, "a")), valid(op), ins(api.InLd, "x"))...)
		}
	}
}

// P9.2: ErrLong for the rungs comes first, then the rungs one by one.
func TestWhichRungComesFirst(t *testing.T) {
	arg, name, long := made(9, "a"), made(api.RungHold, "x"), made(api.RungBit, "a", make([]api.Ins, 13)...)
	expectCheck(t, api.ErrLong, many(13)...)
	expectCheck(t, api.ErrLong, many(100000)...)
	expectCheck(t, api.ErrLong, slices.Repeat([]api.Rung{arg}, 13)...)
	expectCheck(t, api.ErrLong, slices.Repeat([]api.Rung{name}, 13)...)
	expectCheck(t, api.ErrArg, slices.Repeat([]api.Rung{arg}, 12)...)
	good := made(api.RungBit, "a", ins(api.InLd, "a"))
	expectCheck(t, api.ErrArg, good, arg, name, long)
	expectCheck(t, api.ErrName, good, name, long, arg)
	expectCheck(t, api.ErrLong, good, long, arg, name)
	expectCheck(t, api.ErrName, made(api.RungBit, "a", ins(api.InLd, "x")), arg, long)
	expectCheck(t, api.ErrArg, made(api.RungBit, "a", ins(api.InNot, "")), name, long)
	expectCheck(t, api.ErrArg, made(api.RungBit, "a"), name, long)
}

// P9.2: of one rung, the errors come in the order of the list.
func TestWhichErrorOfARungComesFirst(t *testing.T) {
	long, unknown := make([]api.Ins, 13), ins(api.InLd, "x")
	for _, code := range [][]api.Ins{nil, long, {unknown}, {ins(10, "")}} {
		expectCheck(t, api.ErrArg, made(5, "x", code...))
		expectCheck(t, api.ErrArg, made(-1, "heat", code...))
		expectCheck(t, api.ErrArg, made(api.RungHold, "1", code...))
		expectCheck(t, api.ErrArg, made(api.RungBit, "", code...))
		expectCheck(t, api.ErrName, made(api.RungHold, "x", code...))
		expectCheck(t, api.ErrName, made(api.RungPerm, "a", code...))
	}
	for _, in := range []api.Ins{unknown, ins(10, ""), ins(api.InNot, ""), {Name: "a", E: loop()}} {
		expectCheck(t, api.ErrLong, made(api.RungBit, "a", some(13, in)...))
		expectCheck(t, api.ErrLong, made(api.RungHold, "heat", some(13, in)...))
	}
	ld := ins(api.InLd, "a")
	expectCode(t, api.ErrName, unknown, ins(10, ""))
	expectCode(t, api.ErrArg, ins(10, ""), unknown)
	expectCode(t, api.ErrName, ld, unknown)          // two elements at the end
	expectCode(t, api.ErrName, ld, ld, ld, unknown)  // four
	expectCode(t, api.ErrName, ld, ld, compare("x")) // three
	expectCode(t, api.ErrArg, ins(api.InNot, ""), unknown)
}

// P9.2: of one instruction as well.
func TestWhichErrorOfAnInstructionComesFirst(t *testing.T) {
	e := compare("x").E
	expectCode(t, api.ErrArg, ins(10, "x"))
	for _, op := range []int{api.InLd, api.InLdn, api.InAnd, api.InAndn, api.InOr, api.InOrn} {
		expectCode(t, api.ErrArg, api.Ins{Op: op, Name: "x", E: e}) // an E that is not used, a bit that there is not
	}
	expectCode(t, api.ErrArg, api.Ins{Op: api.InCmp, Name: "x", E: e})
	for op := api.InAnd; op <= api.InOrn; op++ {
		expectCode(t, api.ErrName, ins(op, "x")) // and the stack is empty
		expectCode(t, api.ErrArg, api.Ins{Op: op, Name: "x", E: e})
	}
	expectCode(t, api.ErrName, append(some(8, ins(api.InLd, "a")), compare("x"))...) // and the stack is full
	expectCode(t, api.ErrName, append(some(8, ins(api.InLd, "a")), ins(api.InLdn, "x"))...)
	invalid := api.Expr{Op: api.ExAdd, Kids: []api.Expr{{Op: api.ExName, Name: "x"}, {Op: api.ExNot}}}
	expectCode(t, api.ErrArg, api.Ins{Op: api.InCmp, E: invalid}) // a tree that is not valid has no names
}

// P9.2: the bits are those of Bits, so also the name of a rung that is wrong for it, which comes later.
func TestCheckOfBitsThatAreNoNames(t *testing.T) {
	for _, name := range []string{"", "1x", "\xff", "abcdefghijklm"} {
		l := []api.Rung{made(api.RungBit, "a", ins(api.InLd, name)), made(api.RungSet, name, ins(api.InLd, "a"))}
		expectCheck(t, api.ErrArg, l...)
		l[1].Kind = api.RungHold
		expectCheck(t, api.ErrName, l...)
		l[1].Kind = 5
		expectCheck(t, api.ErrName, l...)
	}
}

// P9.2: which tags and phases there are is told by the lists alone, which may have anything in them.
func TestCheckOfNames(t *testing.T) {
	l := []api.Rung{made(api.RungHold, "heat", compare("t < v"))}
	for _, x := range []struct {
		tags, phases []string
		want         api.Errno
	}{
		{[]string{"t", "v"}, []string{"heat"}, api.OK},
		{[]string{"v", "\xff", "t", "t"}, []string{"", "fill", "heat", "heat"}, api.OK},
		{[]string{"t", "v"}, nil, api.ErrName},
		{[]string{"t", "v"}, []string{"t", "v"}, api.ErrName},
		{[]string{"t"}, []string{"heat"}, api.ErrName},
		{[]string{"v"}, []string{"heat"}, api.ErrName},
		{nil, []string{"heat"}, api.ErrName},
		{[]string{"heat"}, []string{"heat", "t", "v"}, api.ErrName},
		{slices.Repeat([]string{"x"}, 100000), slices.Repeat([]string{"x"}, 100000), api.ErrName},
		{append(slices.Repeat([]string{"x"}, 100000), "t", "v"), append(slices.Repeat([]string{"x"}, 100000), "heat"), api.OK},
	} {
		if e := Check(l, x.tags, x.phases); e != x.want {
			t.Errorf("error %d, not %d", e, x.want)
		}
	}
	if e := Check([]api.Rung{made(api.RungHold, "1", compare("1"))}, nil, []string{"1"}); e != api.ErrArg {
		t.Errorf("a phase without a name: error %d", e)
	}
}
