package rung

import (
	"fmt"
	"math"
	"reflect"
	"slices"
	"testing"

	"malthouse/api"
)

func cell(name string, n int) api.Cell { return api.Cell{Name: name, N: n} }

// told is what Run returns in one text, which does not tell nil lists from empty ones.
func told(bits []bool, holds, bars []string) string {
	return fmt.Sprintf("%v %q %q", bits, holds, bars)
}

func expectRun(t *testing.T, l []api.Rung, bits []bool, env []api.Cell, want string) {
	t.Helper()
	if got := told(Run(l, bits, env)); got != want {
		t.Errorf("Run(%v, %v, %v) = %s, not %s", l, bits, env, got, want)
	}
}

func expectNothing(t *testing.T, l []api.Rung, bits []bool, env []api.Cell) {
	t.Helper()
	expectRun(t, l, bits, env, told(nil, nil, nil))
}

// states are all states of n bits.
func states(n int) [][]bool {
	var all [][]bool
	for x := range 1 << n {
		bits := make([]bool, n)
		for i := range bits {
			bits[i] = x>>i&1 != 0
		}
		all = append(all, bits)
	}
	return all
}

// The table of the chapter.
func TestExamples(t *testing.T) {
	env := []api.Cell{cell("t", 80)}
	expectRun(t, []api.Rung{made(api.RungHold, "heat", compare("t < 70"))}, nil, env, told(nil, []string{"heat"}, nil))
	l := []api.Rung{made(api.RungSet, "a", compare("t > 70")), made(api.RungPerm, "fill", ins(api.InLdn, "a"))}
	expectRun(t, l, []bool{false}, env, told([]bool{true}, nil, []string{"fill"}))
	l = []api.Rung{made(api.RungBit, "b", ins(api.InLd, "b"), ins(api.InNot, ""))}
	expectRun(t, l, []bool{false}, env, told([]bool{true}, nil, nil))
	expectRun(t, l, []bool{true}, env, told([]bool{false}, nil, nil))
	ld := ins(api.InLd, "b")
	expectCheck(t, api.ErrArg, made(api.RungBit, "b", ld, ld))
	expectCheck(t, api.ErrArg, made(api.RungBit, "b", ins(api.InAnb, "")))
	expectCheck(t, api.ErrName, made(api.RungHold, "x", compare("1")))
}

// P9.3: what each instruction makes of the elements and of the bit that it has, in all states of them.
func TestInstructions(t *testing.T) {
	type three struct{ x, y, z bool }
	ld := func(name string) api.Ins { return ins(api.InLd, name) }
	for _, c := range []struct {
		code []api.Ins
		want func(s three) bool
	}{
		{[]api.Ins{ld("x")}, func(s three) bool { return s.x }},
		{[]api.Ins{ins(api.InLdn, "y")}, func(s three) bool { return !s.y }},
		{[]api.Ins{ld("x"), ins(api.InAnd, "y")}, func(s three) bool { return s.x && s.y }},
		{[]api.Ins{ld("x"), ins(api.InAndn, "y")}, func(s three) bool { return s.x && !s.y }},
		{[]api.Ins{ld("x"), ins(api.InOr, "y")}, func(s three) bool { return s.x || s.y }},
		{[]api.Ins{ld("x"), ins(api.InOrn, "y")}, func(s three) bool { return s.x || !s.y }},
		{[]api.Ins{ld("x"), ins(api.InNot, "")}, func(s three) bool { return !s.x }},
		{[]api.Ins{ld("x"), ld("y"), ins(api.InAnb, "")}, func(s three) bool { return s.x && s.y }},
		{[]api.Ins{ld("x"), ld("y"), ins(api.InOrb, "")}, func(s three) bool { return s.x || s.y }},
		// An instruction changes the top element alone, or takes the two top ones alone.
		{[]api.Ins{ld("x"), ld("y"), ins(api.InNot, ""), ins(api.InAnb, "")}, func(s three) bool { return s.x && !s.y }},
		{[]api.Ins{ld("x"), ld("y"), ins(api.InAnd, "z"), ins(api.InOrb, "")}, func(s three) bool { return s.x || s.y && s.z }},
		{[]api.Ins{ld("x"), ld("y"), ins(api.InAndn, "z"), ins(api.InOrb, "")}, func(s three) bool { return s.x || s.y && !s.z }},
		{[]api.Ins{ld("x"), ld("y"), ins(api.InOr, "z"), ins(api.InAnb, "")}, func(s three) bool { return s.x && (s.y || s.z) }},
		{[]api.Ins{ld("x"), ld("y"), ins(api.InOrn, "z"), ins(api.InAnb, "")}, func(s three) bool { return s.x && (s.y || !s.z) }},
		{[]api.Ins{ld("x"), ld("y"), ld("z"), ins(api.InAnb, ""), ins(api.InOrb, "")}, func(s three) bool { return s.x || s.y && s.z }},
		{[]api.Ins{ld("x"), ld("y"), ld("z"), ins(api.InOrb, ""), ins(api.InAnb, "")}, func(s three) bool { return s.x && (s.y || s.z) }},
		{[]api.Ins{ld("x"), ld("y"), ins(api.InAnb, ""), ld("z"), ins(api.InOrb, "")}, func(s three) bool { return s.x && s.y || s.z }},
		{[]api.Ins{ld("x"), ins(api.InOr, "y"), ins(api.InAnd, "z")}, func(s three) bool { return (s.x || s.y) && s.z }},
		{[]api.Ins{ld("x"), ins(api.InAnd, "y"), ins(api.InOr, "z")}, func(s three) bool { return s.x && s.y || s.z }},
		{[]api.Ins{ld("x"), compare("1"), ins(api.InAnb, "")}, func(s three) bool { return s.x }},
		{[]api.Ins{compare("0"), ins(api.InOr, "x"), ins(api.InNot, ""), ins(api.InNot, "")}, func(s three) bool { return s.x }},
	} {
		keep := []api.Rung{made(api.RungReset, "x", compare("0")), made(api.RungReset, "y", compare("0")), made(api.RungReset, "z", compare("0"))}
		for _, s := range states(3) {
			var held []string
			if !c.want(three{s[0], s[1], s[2]}) {
				held = []string{"heat"}
			}
			expectRun(t, append(keep, made(api.RungHold, "heat", c.code...)), s, nil, told(s, held, nil))
		}
	}
}

// P9.3: a comparison is true if its value is not 0; an error counts as 0, and the first cell with a name counts.
func TestComparisons(t *testing.T) {
	env := []api.Cell{cell("t", 80), cell("v", 0), cell("t", 0), cell("low", math.MinInt), cell("v", 1)}
	for text, want := range map[string]bool{
		"0": false, "1": true, "2": true, "t": true, "v": false, "-1": true, "0 - t": true, "t - 80": false, "low": true,
		"t == 80": true, "t < 80": false, "9223372036854775807": true, "-9223372036854775807 - 1": true, "t & v": false, "t | v": true,
		"unknown": false, "1 | unknown": false, "1 / 0": false, "!(1 / v)": false, "1 % v": false, "-low": false, "low - 1 < 0": false, "9223372036854775807 + 1": false, "t * low | 1": false,
	} {
		for _, negated := range []bool{false, true} {
			code, outcome := []api.Ins{compare(text)}, want
			if negated {
				code, outcome = append(code, ins(api.InNot, "")), !want
			}
			for _, old := range []bool{false, true} {
				expectRun(t, []api.Rung{made(api.RungBit, "a", code...)}, []bool{old}, env, told([]bool{outcome}, nil, nil))
			}
		}
	}
	expectRun(t, []api.Rung{made(api.RungBit, "a", api.Ins{Op: api.InCmp})}, []bool{true}, env, told([]bool{false}, nil, nil))
	expectRun(t, []api.Rung{made(api.RungBit, "a", compare("t"))}, []bool{true}, nil, told([]bool{false}, nil, nil))
}

// P9.3: what comes of the outcome, for each kind of a rung and each state of its bit.
func TestOutcomes(t *testing.T) {
	for _, outcome := range []bool{false, true} {
		code := []api.Ins{compare("0")}
		held := []string{"heat"}
		if outcome {
			code, held = []api.Ins{compare("1")}, nil
		}
		for _, old := range []bool{false, true} {
			bits := []bool{old}
			expectRun(t, []api.Rung{made(api.RungBit, "a", code...)}, bits, nil, told([]bool{outcome}, nil, nil))
			expectRun(t, []api.Rung{made(api.RungSet, "a", code...)}, bits, nil, told([]bool{old || outcome}, nil, nil))
			expectRun(t, []api.Rung{made(api.RungReset, "a", code...)}, bits, nil, told([]bool{old && !outcome}, nil, nil))
		}
		expectRun(t, []api.Rung{made(api.RungHold, "heat", code...)}, nil, nil, told(nil, held, nil))
		expectRun(t, []api.Rung{made(api.RungPerm, "heat", code...)}, nil, nil, told(nil, nil, held))
		expectRun(t, []api.Rung{made(api.RungHold, "heat", code...), made(api.RungPerm, "heat", code...)}, nil, nil, told(nil, held, held))
	}
}

// P9.3: a rung changes its own bit alone, in the place that Bits has for it.
func TestPlacesOfBits(t *testing.T) {
	for i := range 12 {
		for _, x := range []struct {
			kind int
			code string
			want bool
		}{{api.RungBit, "0", false}, {api.RungBit, "1", true}, {api.RungSet, "1", true}, {api.RungReset, "1", false}} {
			l := many(12)
			for k := range l {
				l[k].Code = []api.Ins{compare("0")}
				if l[k].Kind == api.RungBit {
					l[k].Code = []api.Ins{ins(api.InLd, l[k].Name)}
				}
			}
			l[i].Kind, l[i].Code = x.kind, []api.Ins{compare(x.code)}
			bits := make([]bool, 12)
			for k := range bits {
				bits[k] = k%2 == 0 == x.want
			}
			bits[i] = !x.want
			want := slices.Clone(bits)
			want[i] = x.want
			expectRun(t, l, bits, nil, told(want, nil, nil))
		}
	}
}

// P9.3: the lists have no duplicates, and the first rung with the outcome false counts for the order.
func TestListsOfPhases(t *testing.T) {
	yes, no := compare("1"), compare("0")
	hold := func(name string, in api.Ins) api.Rung { return made(api.RungHold, name, in) }
	perm := func(name string, in api.Ins) api.Rung { return made(api.RungPerm, name, in) }
	expectRun(t, []api.Rung{hold("b", no), hold("a", no), hold("c", no)}, nil, nil, told(nil, []string{"b", "a", "c"}, nil))
	expectRun(t, []api.Rung{hold("b", no), hold("a", no), hold("b", no), hold("a", yes)}, nil, nil, told(nil, []string{"b", "a"}, nil))
	expectRun(t, []api.Rung{hold("b", yes), hold("a", no), hold("b", no)}, nil, nil, told(nil, []string{"a", "b"}, nil))
	expectRun(t, []api.Rung{perm("b", no), perm("a", no), perm("c", no)}, nil, nil, told(nil, nil, []string{"b", "a", "c"}))
	expectRun(t, []api.Rung{perm("b", no), perm("a", no), perm("b", no), perm("a", yes)}, nil, nil, told(nil, nil, []string{"b", "a"}))
	expectRun(t, []api.Rung{perm("b", yes), perm("a", no), perm("b", no)}, nil, nil, told(nil, nil, []string{"a", "b"}))
	expectRun(t, []api.Rung{hold("a", no), perm("b", no), hold("c", no), perm("a", no), hold("b", yes)}, nil, nil, told(nil, []string{"a", "c"}, []string{"b", "a"}))
	expectRun(t, []api.Rung{hold("a", no), hold("A", no), hold("á", no)}, nil, nil, told(nil, []string{"a", "A", "á"}, nil))
}

// P9.3: the phases need not exist, nor be other names than those of bits or tags.
func TestPhasesAndBitsWithOneName(t *testing.T) {
	l := []api.Rung{made(api.RungBit, "a", ins(api.InLdn, "a")), made(api.RungHold, "a", ins(api.InLd, "a")), made(api.RungPerm, "a", ins(api.InLdn, "a")), made(api.RungBit, "a", compare("a"))}
	expectRun(t, l, []bool{false}, []api.Cell{cell("a", 1)}, told([]bool{true}, nil, []string{"a"}))
	expectRun(t, l, []bool{true}, []api.Cell{cell("a", 0)}, told([]bool{false}, []string{"a"}, nil))
}

// P9.3 and P9.4: the effect of a rung is visible to the rungs after it, and not to those before it.
func TestEffectsAreVisibleAfterwards(t *testing.T) {
	before := made(api.RungPerm, "before", ins(api.InLd, "a"))
	after := made(api.RungPerm, "after", ins(api.InLd, "a"))
	for _, x := range []struct {
		change   api.Rung
		old, now bool
	}{
		{made(api.RungSet, "a", compare("1")), false, true},
		{made(api.RungReset, "a", compare("1")), true, false},
		{made(api.RungBit, "a", compare("1")), false, true},
		{made(api.RungBit, "a", compare("0")), true, false},
		{made(api.RungBit, "a", ins(api.InLdn, "a")), false, true},
		{made(api.RungBit, "a", ins(api.InLdn, "a")), true, false},
		{made(api.RungBit, "a", compare("1"), ins(api.InAndn, "a"), ins(api.InAndn, "a")), false, true}, // a rung sees its own bit as it was
	} {
		barred := []string{"before"}
		if x.old {
			barred = []string{"after"}
		}
		expectRun(t, []api.Rung{before, x.change, after}, []bool{x.old}, nil, told([]bool{x.now}, nil, barred))
	}
	l := []api.Rung{made(api.RungBit, "a", ins(api.InLd, "b")), made(api.RungBit, "b", ins(api.InLd, "c")), made(api.RungBit, "c", ins(api.InLd, "a"))}
	expectRun(t, l, []bool{false, true, false}, nil, told([]bool{true, false, true}, nil, nil))
	expectRun(t, l, []bool{true, false, false}, nil, told([]bool{false, false, false}, nil, nil))
	l = []api.Rung{made(api.RungSet, "a", compare("1")), made(api.RungReset, "a", ins(api.InLd, "a")), made(api.RungSet, "b", ins(api.InLdn, "a"))}
	expectRun(t, l, []bool{false, false}, nil, told([]bool{false, true}, nil, nil))
}

// P9.3: no rungs leave nothing to say.
func TestRunOfNoRungs(t *testing.T) {
	for _, l := range [][]api.Rung{nil, {}} {
		for _, bits := range [][]bool{nil, {}} {
			expectNothing(t, l, bits, nil)
			expectNothing(t, l, bits, []api.Cell{cell("t", 1)})
		}
		expectNothing(t, l, []bool{true}, nil)
	}
}

// P9.3: bits of another length than that of Bits yield nothing.
func TestRunOfWrongBits(t *testing.T) {
	hold := made(api.RungHold, "heat", compare("0"))
	l := []api.Rung{hold, made(api.RungSet, "a", compare("1")), made(api.RungPerm, "heat", compare("0")), made(api.RungSet, "b", compare("1")), made(api.RungReset, "a", compare("0"))}
	for n := range 20 {
		if n == 2 {
			expectRun(t, l, make([]bool, n), nil, told([]bool{true, true}, []string{"heat"}, []string{"heat"}))
			continue
		}
		expectNothing(t, l, make([]bool, n), nil)
	}
	expectNothing(t, l, nil, nil)
	expectNothing(t, l, make([]bool, 1000000), nil)
	expectNothing(t, []api.Rung{hold}, []bool{false}, nil)
	expectRun(t, []api.Rung{hold}, nil, nil, told(nil, []string{"heat"}, nil))
}

// P9.3: so does each error of Check, wherever it stands, but for names of phases and tags that do not exist.
func TestRunOfWrongRungs(t *testing.T) {
	for _, x := range wrongRungs() {
		for _, at := range []int{0, 1, 6, 11} {
			l := many(11)
			if x.want == api.ErrName && lacksOthers(x.rung) {
				continue
			}
			l = slices.Insert(l, at, x.rung)
			expectNothing(t, l, make([]bool, len(Bits(l))), nil)
		}
	}
	for _, n := range []int{13, 14, 1000} {
		expectNothing(t, many(n), make([]bool, n), nil)
	}
}

// lacksOthers tells whether a rung is wrong only because phases or tags do not exist.
func lacksOthers(r api.Rung) bool {
	return !slices.ContainsFunc(r.Code, func(in api.Ins) bool { return in.Op != api.InCmp && in.Name != "b0" })
}

// P9.3: no phase and no tag need exist.
func TestRunOfUnknownNames(t *testing.T) {
	l := []api.Rung{made(api.RungHold, "x1", compare("x2")), made(api.RungPerm, "x3", compare("x4 == 7"), ins(api.InOrn, "b")), made(api.RungSet, "b", compare("x4"))}
	expectRun(t, l, []bool{true}, []api.Cell{cell("x4", 6)}, told([]bool{true}, []string{"x1"}, []string{"x3"}))
	expectRun(t, l, []bool{true}, []api.Cell{cell("x4", 7)}, told([]bool{true}, []string{"x1"}, nil))
	expectRun(t, l, []bool{false}, nil, told([]bool{false}, []string{"x1"}, nil))
}

// P9.3: as many rungs and instructions as there may be.
func TestRunOfTheLongestRungs(t *testing.T) {
	l := many(12)
	bits := make([]bool, 12)
	for i := range l {
		name := l[(i+11)%12].Name // the bit of the rung before
		l[i] = made(api.RungBit, l[i].Name, append(some(1, ins(api.InLd, name)), some(11, ins(api.InNot, ""))...)...)
		if i == 0 {
			l[i].Code = l[i].Code[:11]
		}
	}
	bits[11] = true
	want := make([]bool, 12)
	for i := range want {
		want[i] = i%2 == 0
	}
	expectRun(t, l, bits, nil, told(want, nil, nil))
	deep := join(some(6, compare("1")), some(5, ins(api.InAnb, "")), some(1, ins(api.InNot, "")))
	expectRun(t, []api.Rung{made(api.RungHold, "heat", deep...)}, nil, nil, told(nil, []string{"heat"}, nil))
}

// R3: no call changes what it is given, and what it returns may be changed.
func TestNothingIsShared(t *testing.T) {
	ladder := func() []api.Rung {
		return []api.Rung{made(api.RungBit, "a", ins(api.InLdn, "a")), made(api.RungHold, "heat", compare("t < 1")), made(api.RungPerm, "heat", compare("0"), ins(api.InAnd, "a")), made(api.RungSet, "b", compare("1"))}
	}
	l, bits, env := ladder(), append(make([]bool, 0, 8), false, false), []api.Cell{cell("t", 1)}
	names := slices.Clone(someTags)
	expectSame := func() {
		t.Helper()
		if !reflect.DeepEqual(l, ladder()) || !slices.Equal(bits[:8], make([]bool, 8)) || !slices.Equal(env, []api.Cell{cell("t", 1)}) || !slices.Equal(names, someTags) {
			t.Fatalf("an argument is changed: %v, %v, %v, %q", l, bits[:8], env, names)
		}
	}
	want := told([]bool{true, true}, []string{"heat"}, []string{"heat"})
	for range 3 {
		got := Bits(l)
		expectBits(t, l, "a", "b")
		for i := range got {
			got[i] = "x"
		}
		Check(l, names, names)
		expectSame()
		now, holds, bars := Run(l, bits, env)
		if told(now, holds, bars) != want {
			t.Fatalf("Run = %s, not %s", told(now, holds, bars), want)
		}
		expectSame()
		now[0], now[1], holds[0] = false, false, "x"
		_, _ = append(now, true), append(holds, "x")
		if bars[0] != "heat" {
			t.Fatalf("the two lists share their memory")
		}
		bars[0] = "x"
		expectSame()
	}
}

// P1: arguments of any size, and none at all.
func TestLargeArguments(t *testing.T) {
	l := []api.Rung{made(api.RungHold, "heat", compare("t"))}
	env := append(slices.Repeat([]api.Cell{cell("x", 1)}, 1000000), cell("t", 1))
	expectRun(t, l, nil, env, told(nil, nil, nil))
	expectRun(t, l, nil, env[:1000000], told(nil, []string{"heat"}, nil))
	expectNothing(t, make([]api.Rung, 1000000), make([]bool, 1), nil)
	expectNothing(t, make([]api.Rung, 1000000), nil, nil)
	expectCheck(t, api.ErrLong, make([]api.Rung, 1000000)...)
	expectCheck(t, api.ErrLong, made(api.RungBit, "a", make([]api.Ins, 1000000)...))
	expectNothing(t, []api.Rung{made(api.RungBit, "a", make([]api.Ins, 1000000)...)}, []bool{true}, nil)
	expectBits(t, make([]api.Rung, 1000000), "")
}
