package prog

import (
	"math"
	"slices"
	"strings"
	"testing"

	"malthouse/api"
	"malthouse/expr"
)

// tree is the expression with a text.
func tree(text string) api.Expr {
	e, f, _ := expr.Parse(text)
	if f != api.OK {
		panic(text)
	}
	return e
}

// One step of each kind, with its expression told by its text.
func setStep(name, e string) api.Step  { return api.Step{Op: api.StepSet, Name: name, E: tree(e)} }
func waitStep(e string) api.Step       { return api.Step{Op: api.StepWait, E: tree(e)} }
func delayStep(e string) api.Step      { return api.Step{Op: api.StepDelay, E: tree(e)} }
func drawStep(name, e string) api.Step { return api.Step{Op: api.StepDraw, Name: name, E: tree(e)} }
func gotoStep(n int) api.Step          { return api.Step{Op: api.StepGoto, N: n} }
func noteStep(text string) api.Step    { return api.Step{Op: api.StepNote, Name: text} }

func chargeStep(name, to, e string) api.Step {
	return api.Step{Op: api.StepCharge, Name: name, To: to, E: tree(e)}
}

func moveStep(name, to, e string) api.Step {
	return api.Step{Op: api.StepMove, Name: name, To: to, E: tree(e)}
}

// with is a step with another expression.
func with(s api.Step, e api.Expr) api.Step {
	s.E = e
	return s
}

// The names that exist in most tests. What is in one list only must not do for another one.
var (
	someOuts    = []string{"v", "w"}
	someVessels = []string{"k", "m", "é"}
	someNames   = []string{"t", "v", "goal", "ü"}
)

// oneOfEach is a valid step of each kind, by its Op.
func oneOfEach() []api.Step {
	return []api.Step{setStep("v", "3"), waitStep("t > 5"), delayStep("goal"), chargeStep("k", "malt", "t"), drawStep("m", "1"), moveStep("k", "m", "v"), gotoStep(0), noteStep("ok")}
}

// longest is a valid program of 16 steps.
func longest() []api.Step { return append(oneOfEach(), oneOfEach()...) }

// wrongTrees are some that expr.May does not accept. Some contain names that do not exist.
func wrongTrees() []api.Expr {
	endless := api.Expr{Op: api.ExNot, Kids: make([]api.Expr, 1)}
	endless.Kids[0] = endless
	long := tree("t" + strings.Repeat("+t", 31))
	return []api.Expr{
		{N: -1}, {N: math.MinInt}, {Name: "t"}, {Op: api.ExName}, {Op: api.ExName, Name: "1"}, {Op: api.ExName, Name: "t", N: 1},
		{Op: -1}, {Op: 17}, {Op: math.MaxInt}, {Op: api.ExNeg}, {Op: api.ExAdd, Kids: []api.Expr{{N: 1}}}, {Kids: []api.Expr{{}}},
		{Op: api.ExAdd, Kids: []api.Expr{{N: -1}, {Op: api.ExName, Name: "x"}}}, {Op: api.ExAdd, Kids: []api.Expr{{Op: api.ExName, Name: "x"}, {Op: 17}}},
		{Op: api.ExNot, Kids: []api.Expr{long, long}}, {Op: api.ExAdd, Kids: []api.Expr{long, {}}}, endless,
	}
}

func expectCheck(t *testing.T, want api.Errno, l ...api.Step) {
	t.Helper()
	if e := Check(l, someOuts, someVessels, someNames); e != want {
		t.Errorf("Check(%v): error %d, not %d", l, e, want)
	}
}

// P11.1: a step of each kind, and programs of each length.
func TestCheckAccepts(t *testing.T) {
	expectCheck(t, api.OK)
	for _, s := range oneOfEach() {
		expectCheck(t, api.OK, s)
	}
	for n := range 17 {
		expectCheck(t, api.OK, longest()[:n]...)
	}
	for _, name := range someOuts {
		expectCheck(t, api.OK, setStep(name, "0"))
	}
	for _, name := range someVessels {
		expectCheck(t, api.OK, chargeStep(name, "malt", "0"))
		expectCheck(t, api.OK, drawStep(name, "0"))
		for _, to := range someVessels {
			if name != to {
				expectCheck(t, api.OK, moveStep(name, to, "0"))
			}
		}
	}
	if e := Check(nil, nil, nil, nil); e != api.OK {
		t.Errorf("nothing at all: error %d", e)
	}
}

// P11.1: what expressions may be.
func TestCheckAcceptsExpressions(t *testing.T) {
	for _, text := range []string{"0", "9223372036854775807", "t", "v", "goal", "ü", "t + v * goal - ü", "-9223372036854775807 - 1", "1 / 0", "t < 1 | !v", "t" + strings.Repeat("+t", 31), strings.Repeat("(", 31) + "t" + strings.Repeat(")", 31)} {
		for _, s := range oneOfEach() {
			if s.Op < api.StepGoto {
				expectCheck(t, api.OK, with(s, tree(text)))
			}
		}
	}
	unary := tree("t")
	for range 63 {
		unary = api.Expr{Op: api.ExNot, Kids: []api.Expr{unary}}
	}
	expectCheck(t, api.OK, with(waitStep("0"), unary))
	expectCheck(t, api.ErrArg, with(waitStep("0"), api.Expr{Op: api.ExNeg, Kids: []api.Expr{unary}}))
}

// P11.1: too many steps, whatever else is wrong.
func TestCheckCountsSteps(t *testing.T) {
	expectCheck(t, api.OK, longest()...)
	for _, n := range []int{17, 18, 32, 1000, 1000000} {
		expectCheck(t, api.ErrLong, make([]api.Step, n)...)
		expectCheck(t, api.ErrLong, slices.Repeat([]api.Step{noteStep("a")}, n)...)
		expectCheck(t, api.ErrLong, slices.Repeat([]api.Step{{Op: 8}}, n)...)
	}
}

// wrong is a step that no program may have, and why.
type wrong struct {
	want api.Errno
	step api.Step
}

// wrongSteps are some with each error, in programs of at most 16 steps.
func wrongSteps() []wrong {
	var all []wrong
	add := func(want api.Errno, l ...api.Step) {
		for _, s := range l {
			all = append(all, wrong{want, s})
		}
	}
	for _, op := range []int{-1, 8, 9, math.MinInt, math.MaxInt} {
		add(api.ErrArg, api.Step{Op: op}, api.Step{Op: op, Name: "v", E: tree("t")})
	}
	for _, name := range []string{"", "x", "t", "k", "V", "v ", "goal"} {
		add(api.ErrNone, setStep(name, "1"))
	}
	for _, name := range []string{"", "x", "t", "v", "K", "k ", "e"} {
		add(api.ErrNone, chargeStep(name, "malt", "1"), drawStep(name, "1"), moveStep(name, "k", "1"), moveStep("k", name, "1"), moveStep(name, name, "1"))
	}
	for _, to := range []string{"", "1", "1a", "a b", " a", "a-", "\xff", "a\xff", "×", "abcdefghijklm", "ɏɏɏɏɏɏɏɏɏɏɏɏɏ"} {
		add(api.ErrArg, chargeStep("k", to, "1"))
	}
	for _, name := range someVessels {
		add(api.ErrArg, moveStep(name, name, "1"))
	}
	for _, text := range []string{`"`, `a"b`, "a\n", "\x00", "\x1f", "\t", "\xff", "a\xc3", "\xed\xa0\x80", "abcdefghijklmnopqrstu", strings.Repeat("é", 21)} {
		add(api.ErrArg, noteStep(text))
	}
	for _, n := range []int{-1, -2, 17, 18, math.MinInt, math.MaxInt} {
		add(api.ErrArg, gotoStep(n))
	}
	for _, s := range oneOfEach()[:api.StepGoto] {
		for _, e := range wrongTrees() {
			add(api.ErrArg, with(s, e))
		}
		for _, text := range []string{"x", "t + w", "k", "malt", "T", "x / 0", "-goal * (t - u)"} {
			add(api.ErrNone, with(s, tree(text)))
		}
	}
	return append(all, wrongUnused()...)
}

// wrongUnused are steps with something in a field that their Op does not use, of each such field.
func wrongUnused() []wrong {
	uses := []string{"Name E", "E", "E", "Name To E", "Name E", "Name To E", "N", "Name"}
	var all []wrong
	for op, s := range oneOfEach() {
		add := func(field string, l ...api.Step) {
			if slices.Contains(strings.Fields(uses[op]), field) {
				return
			}
			for _, s := range l {
				all = append(all, wrong{api.ErrArg, s})
			}
		}
		name, to := s, s
		name.Name, to.To = "k", "m"
		add("Name", name)
		add("To", to)
		for _, n := range []int{1, -1, math.MinInt, math.MaxInt} {
			changed := s
			changed.N = n
			add("N", changed)
		}
		for _, e := range append(wrongTrees(), tree("1"), tree("t"), tree("-1"), tree("x + 1")) {
			add("E", with(s, e))
		}
	}
	return all
}

// P11.1: each error, wherever the step stands.
func TestCheckRefuses(t *testing.T) {
	for _, x := range wrongSteps() {
		expectCheck(t, x.want, x.step)
		for _, at := range []int{0, 1, 7, 14, 15} {
			l := longest()
			l[at] = x.step
			expectCheck(t, x.want, l...)
		}
	}
}

// P11.1: steps are checked one by one, so that the first wrong one tells the error.
func TestCheckTellsTheFirstWrongStep(t *testing.T) {
	all := wrongSteps()
	pairs := map[[2]api.Errno]int{}
	for i, a := range all {
		b := all[(i*7+3)%len(all)]
		expectCheck(t, a.want, a.step, b.step)
		expectCheck(t, b.want, b.step, a.step)
		expectCheck(t, a.want, noteStep("a"), a.step, noteStep("b"), b.step)
		pairs[[2]api.Errno{a.want, b.want}]++
	}
	if len(pairs) != 4 {
		t.Errorf("the pairs of errors are %v", pairs)
	}
}

// P11.1: the order of the errors of one step.
func TestCheckTellsTheFirstErrorOfAStep(t *testing.T) {
	bad := api.Expr{Op: 17}
	unknown := tree("x")
	// A field that is not used goes ahead of a name that does not exist.
	expectCheck(t, api.ErrArg, api.Step{Op: api.StepSet, Name: "x", To: "k"})
	expectCheck(t, api.ErrArg, api.Step{Op: api.StepSet, Name: "x", N: 1})
	expectCheck(t, api.ErrArg, api.Step{Op: api.StepDraw, Name: "x", To: "k"})
	expectCheck(t, api.ErrArg, api.Step{Op: api.StepDraw, Name: "x", N: -1})
	expectCheck(t, api.ErrArg, api.Step{Op: api.StepCharge, Name: "x", To: "malt", N: 1})
	expectCheck(t, api.ErrArg, api.Step{Op: api.StepMove, Name: "x", To: "k", N: 1})
	expectCheck(t, api.ErrArg, api.Step{Op: api.StepWait, Name: "v", E: unknown})
	expectCheck(t, api.ErrArg, api.Step{Op: api.StepDelay, N: 1, E: unknown})
	// So does what the Op decides, ahead of the expression.
	expectCheck(t, api.ErrNone, with(setStep("x", "0"), bad))
	expectCheck(t, api.ErrNone, with(chargeStep("x", "malt", "0"), bad))
	expectCheck(t, api.ErrNone, with(drawStep("x", "0"), bad))
	expectCheck(t, api.ErrNone, with(moveStep("x", "k", "0"), bad))
	expectCheck(t, api.ErrNone, with(moveStep("k", "x", "0"), bad))
	expectCheck(t, api.ErrArg, with(chargeStep("k", "1", "0"), unknown))
	expectCheck(t, api.ErrArg, with(moveStep("k", "k", "0"), unknown))
	// And the vessel ahead of the lot, or of the other vessel's being the same.
	expectCheck(t, api.ErrNone, chargeStep("x", "1", "0"))
	expectCheck(t, api.ErrNone, moveStep("x", "x", "0"))
	// And that an expression is not valid ahead of the names in it.
	expectCheck(t, api.ErrArg, with(waitStep("0"), api.Expr{Op: api.ExAdd, Kids: []api.Expr{unknown, bad}}))
	expectCheck(t, api.ErrArg, with(waitStep("0"), api.Expr{Op: api.ExAnd, Kids: []api.Expr{tree("x" + strings.Repeat("+x", 31)), unknown}}))
}

// P11.1: a StepGoto may lead to each step and behind the last one, of programs of each length.
func TestCheckOfTargets(t *testing.T) {
	for steps := 1; steps <= 16; steps++ {
		for at := range steps {
			for n := -2; n < 20; n++ {
				l := longest()[:steps]
				for i := range l {
					l[i] = noteStep("a")
				}
				l[at] = gotoStep(n)
				want := api.ErrArg
				if n >= 0 && n <= steps {
					want = api.OK
				}
				expectCheck(t, want, l...)
			}
		}
	}
}

// P11.1: the longest names and texts, and the shortest ones.
func TestCheckOfNamesAndTexts(t *testing.T) {
	for _, to := range []string{"a", "_", "é", "X9_", "abcdefghijkl", "ɏɏɏɏɏɏɏɏɏɏɏɏ", "k", "v", "charge"} {
		expectCheck(t, api.OK, chargeStep("k", to, "1"))
	}
	for _, text := range []string{"", " ", "a b", "1", "#", "\x7f", "abcdefghijklmnopqrst", strings.Repeat("\U0010FFFF", 20), "\uFFFD"} {
		expectCheck(t, api.OK, noteStep(text))
	}
}

// P11.1: the three lists are what is asked, whatever is in them, and each one for its own fields.
func TestCheckOfOtherLists(t *testing.T) {
	check := func(want api.Errno, s api.Step, outs, vessels, names []string) {
		t.Helper()
		if e := Check([]api.Step{s}, outs, vessels, names); e != want {
			t.Errorf("Check(%v, %q, %q, %q): error %d, not %d", s, outs, vessels, names, e, want)
		}
	}
	odd := []string{"", "1", "\xff", "a b", "abcdefghijklm", "a", "a"}
	for _, name := range odd {
		check(api.OK, setStep(name, "1"), odd, nil, nil)
		check(api.OK, drawStep(name, "1"), nil, odd, nil)
		check(api.OK, chargeStep(name, "a", "1"), nil, odd, nil)
		check(api.ErrNone, setStep(name, "1"), nil, odd, odd)
		check(api.ErrNone, drawStep(name, "1"), odd, nil, odd)
		check(api.ErrNone, chargeStep(name, "a", "1"), odd, nil, odd)
		check(api.ErrNone, moveStep(name, "", "1"), odd, nil, odd)
	}
	check(api.OK, moveStep("", "1", "1"), nil, odd, nil)
	check(api.ErrArg, moveStep("", "", "1"), nil, odd, nil)
	check(api.OK, waitStep("a"), nil, nil, odd)
	check(api.ErrNone, waitStep("a"), odd, odd, nil)
	check(api.ErrArg, api.Step{Op: api.StepWait, E: api.Expr{Op: api.ExName, Name: "1"}}, odd, odd, odd)
	check(api.OK, noteStep("x"), nil, nil, nil)
	check(api.OK, gotoStep(1), nil, nil, nil)
	many := append(slices.Repeat([]string{"x"}, 1000000), "a")
	check(api.OK, setStep("a", "a"), many, nil, many)
	check(api.OK, moveStep("x", "a", "1"), nil, many, nil)
	check(api.ErrNone, setStep("b", "a"), many, many, many)
}

// P11.1: a list of operands that is empty is none.
func TestCheckOfEmptyLists(t *testing.T) {
	empty := api.Expr{Kids: []api.Expr{}}
	for _, s := range oneOfEach() {
		if s.Op >= api.StepGoto {
			expectCheck(t, api.OK, with(s, empty))
		}
	}
	expectCheck(t, api.OK, with(waitStep("1"), empty))
	if e := Check([]api.Step{}, []string{}, []string{}, []string{}); e != api.OK {
		t.Errorf("error %d", e)
	}
}

// P11.4: each index and each target; only a StepGoto counts.
func TestEnds(t *testing.T) {
	for _, l := range [][]api.Step{nil, {}, oneOfEach()[:api.StepGoto], make([]api.Step, 1000000)} {
		if !Ends(l) {
			t.Errorf("%d steps without a StepGoto", len(l))
		}
	}
	for steps := 1; steps <= 17; steps++ {
		for at := range steps {
			for _, n := range []int{math.MinInt, -1, 0, 1, at - 1, at, at + 1, at + 2, steps - 1, steps, steps + 1, math.MaxInt} {
				l := make([]api.Step, steps)
				l[at] = gotoStep(n)
				if want := n > at; Ends(l) != want {
					t.Errorf("Ends is %v for a jump from %d to %d", !want, at, n)
				}
				for _, op := range []int{-1, api.StepSet, api.StepDelay, api.StepMove, api.StepNote, 8, math.MaxInt} {
					l[at].Op = op
					if !Ends(l) {
						t.Errorf("Ends is false for the Op %d with N %d at %d", op, n, at)
					}
				}
			}
		}
	}
}

// P11.4: one jump back is enough, wherever it stands among others.
func TestEndsOfSeveralJumps(t *testing.T) {
	for back := range 12 {
		l := make([]api.Step, 12)
		for i := range l {
			l[i] = gotoStep(12)
		}
		if !Ends(l) {
			t.Fatal("all jumps lead to the end")
		}
		for n := range 13 {
			l[back].N = n
			if Ends(l) != (n > back) {
				t.Errorf("Ends is wrong for a jump from %d to %d", back, n)
			}
		}
	}
}
