package prog

import (
	"fmt"
	"math"
	"reflect"
	"slices"
	"testing"

	"malthouse/api"
)

func cell(name string, n int) api.Cell { return api.Cell{Name: name, N: n} }

func at(pc, left int) api.Mach { return api.Mach{PC: pc, Left: left} }

// scanned is what Scan tells.
type scanned struct {
	m       api.Mach
	effects []api.Effect
	done    bool
	e       api.Errno
}

// String makes results comparable: no effects are none, whether nil or empty.
func (s scanned) String() string { return fmt.Sprintf("%+v %+v %v %d", s.m, s.effects, s.done, s.e) }

func scan(l []api.Step, m api.Mach, env ...api.Cell) scanned {
	next, effects, done, e := Scan(l, m, env)
	return scanned{next, effects, done, e}
}

func expectScan(t *testing.T, l []api.Step, m api.Mach, env []api.Cell, want scanned) {
	t.Helper()
	if got := scan(l, m, env...); got.String() != want.String() {
		t.Errorf("Scan(%v, %+v, %v) = %v, not %v", l, m, env, got, want)
	}
}

// between is a program whose step 1 is s; the others request a note.
func between(s api.Step) []api.Step { return []api.Step{noteStep("a"), s, noteStep("b")} }

// The outcomes of step 1 there: it leads on with these effects, it stays, or it fails.
func onward(effects ...api.Effect) scanned { return scanned{m: at(2, 0), effects: effects} }
func staying(left int) scanned             { return scanned{m: at(1, left)} }
func failing(e api.Errno) scanned          { return scanned{m: at(1, 0), e: e} }

func expectStep(t *testing.T, s api.Step, want scanned, env ...api.Cell) {
	t.Helper()
	expectScan(t, between(s), at(1, 0), env, want)
	// As the last step it finishes the program, if it leads on.
	want.done = want.m.PC == 2
	expectScan(t, between(s)[:2], at(1, 0), env, want)
}

// P11.2: positions of programs of each length.
func TestRight(t *testing.T) {
	for steps := range 18 {
		for delay := -1; delay < steps; delay++ {
			l := make([]api.Step, steps)
			for i := range l {
				l[i] = noteStep("a")
			}
			if delay >= 0 {
				l[delay].Op = api.StepDelay
			}
			for pc := -2; pc < steps+3; pc++ {
				for _, left := range []int{math.MinInt, -1, 0, 1, 2, math.MaxInt} {
					want := pc >= 0 && pc <= steps && (left == 0 || left > 0 && pc == delay)
					if Right(l, at(pc, left)) != want {
						t.Errorf("Right is %v for the position %d, %d of %d steps with a delay at %d", !want, pc, left, steps, delay)
					}
				}
			}
		}
	}
}

// P11.2: numbers far beyond the program, each Op, and no program.
func TestRightOfOddPrograms(t *testing.T) {
	for _, pc := range []int{math.MinInt, math.MinInt + 1, -1, 2, math.MaxInt - 1, math.MaxInt} {
		for _, left := range []int{math.MinInt, -1, 0, 1, math.MaxInt} {
			if Right([]api.Step{delayStep("1")}, at(pc, left)) {
				t.Errorf("Right is true at %d, %d", pc, left)
			}
		}
	}
	for _, op := range []int{math.MinInt, -1, 0, 1, 2, 3, 4, 5, 6, 7, 8, math.MaxInt} {
		l := []api.Step{{Op: op}}
		if !Right(l, at(0, 0)) || !Right(l, at(1, 0)) || Right(l, at(0, 1)) != (op == api.StepDelay) || Right(l, at(0, -1)) || Right(l, at(1, 1)) {
			t.Errorf("Right is wrong for the Op %d", op)
		}
	}
	for _, l := range [][]api.Step{nil, {}} {
		if !Right(l, at(0, 0)) || Right(l, at(0, 1)) || Right(l, at(1, 0)) || Right(l, at(-1, 0)) {
			t.Errorf("Right is wrong for no steps")
		}
	}
	long := make([]api.Step, 1000000)
	long[999999].Op = api.StepDelay
	if !Right(long, at(1000000, 0)) || !Right(long, at(999999, 5)) || Right(long, at(1000001, 0)) || Right(long, at(999998, 5)) {
		t.Errorf("Right is wrong for a million steps")
	}
}

// P11.3: the examples of the chapter, scan by scan.
func TestScanOfTheExamples(t *testing.T) {
	l := []api.Step{setStep("v", "3"), waitStep("t > 5"), noteStep("ok")}
	expectScan(t, l, at(0, 0), []api.Cell{cell("t", 9)}, scanned{m: at(1, 0), effects: []api.Effect{{Op: api.StepSet, Name: "v", N: 3}}})
	for _, n := range []int{5, 0, -1, math.MinInt} {
		expectScan(t, l, at(1, 0), []api.Cell{cell("t", n)}, scanned{m: at(1, 0)})
	}
	expectScan(t, l, at(1, 0), []api.Cell{cell("t", 6)}, scanned{m: at(2, 0)})
	expectScan(t, l, at(2, 0), nil, scanned{m: at(3, 0), effects: []api.Effect{{Op: api.StepNote, Name: "ok"}}, done: true})
	expectScan(t, l, at(3, 0), nil, scanned{m: at(3, 0), done: true})
	delay := []api.Step{delayStep("2")}
	expectScan(t, delay, at(0, 0), nil, scanned{m: at(0, 2)})
	expectScan(t, delay, at(0, 2), nil, scanned{m: at(0, 1)})
	expectScan(t, delay, at(0, 1), nil, scanned{m: at(1, 0), done: true})
	expectScan(t, []api.Step{gotoStep(0)}, at(0, 0), nil, scanned{m: at(0, 0)})
	expectScan(t, []api.Step{setStep("v", "x")}, at(0, 0), []api.Cell{cell("y", 1)}, scanned{e: api.ErrName})
}

// P11.3: a position that is not valid yields the zero position, and nothing is done.
func TestScanOfWrongPositions(t *testing.T) {
	want := scanned{e: api.ErrArg}
	l := between(delayStep("2"))
	for _, m := range []api.Mach{at(-1, 0), at(4, 0), at(5, 0), at(math.MinInt, 0), at(math.MaxInt, 0), at(0, 1), at(2, 1), at(3, 1), at(1, -1), at(0, -1), at(3, -1), at(1, math.MinInt), at(4, 1), at(-1, 1)} {
		expectScan(t, l, m, nil, want)
	}
	for _, l := range [][]api.Step{nil, {}} {
		for _, m := range []api.Mach{at(1, 0), at(-1, 0), at(0, 1), at(0, -1)} {
			expectScan(t, l, m, nil, want)
		}
	}
	for _, s := range append(oneOfEach(), api.Step{Op: -1}, api.Step{Op: 8}) {
		if s.Op != api.StepDelay {
			expectScan(t, between(s), at(1, 1), []api.Cell{cell("t", 9), cell("v", 1)}, want)
		}
	}
}

// P11.3: a finished program stays so.
func TestScanOfFinishedPrograms(t *testing.T) {
	expectScan(t, nil, at(0, 0), nil, scanned{done: true})
	expectScan(t, []api.Step{}, at(0, 0), []api.Cell{cell("t", 1)}, scanned{done: true})
	for n := 1; n <= 16; n++ {
		expectScan(t, longest()[:n], at(n, 0), nil, scanned{m: at(n, 0), done: true})
	}
	expectScan(t, []api.Step{delayStep("x")}, at(1, 0), nil, scanned{m: at(1, 0), done: true})
}

// P11.3: each Op that requests something, with its fields and its number.
func TestScanRequests(t *testing.T) {
	for _, op := range []int{api.StepSet, api.StepCharge, api.StepDraw, api.StepMove} {
		for _, n := range []int{0, 1, -1, math.MaxInt, math.MinInt} {
			for _, to := range []string{"", "m", "\xff"} {
				s := api.Step{Op: op, Name: "k", To: to, E: tree("n"), N: 77}
				expectStep(t, s, onward(api.Effect{Op: op, Name: "k", To: to, N: n}), cell("n", n))
			}
		}
		s := api.Step{Op: op, Name: "", E: tree("(n - 2) * n")}
		expectStep(t, s, onward(api.Effect{Op: op, N: 35}), cell("n", 7), cell("n", 8))
	}
	for _, text := range []string{"", "ok", "\"", "\xff", "a text of more than twenty runes"} {
		expectStep(t, noteStep(text), onward(api.Effect{Op: api.StepNote, Name: text}))
		s := api.Step{Op: api.StepNote, Name: text, To: "k", E: tree("x / 0"), N: 5}
		expectStep(t, s, onward(api.Effect{Op: api.StepNote, Name: text}))
	}
}

// P11.3: a wait stays only with 0.
func TestScanWaits(t *testing.T) {
	for _, n := range []int{1, -1, 2, math.MaxInt, math.MinInt} {
		expectStep(t, waitStep("n"), onward(), cell("n", n))
		expectStep(t, waitStep("!n"), staying(0), cell("n", n))
	}
	expectStep(t, waitStep("n"), staying(0), cell("n", 0))
	expectStep(t, waitStep("!n"), onward(), cell("n", 0))
	s := waitStep("1")
	s.Name, s.To, s.N = "v", "k", 9
	expectStep(t, s, onward())
}

// P11.3: a delay begins with its length, unless that is at most 0.
func TestScanBeginsDelays(t *testing.T) {
	for _, n := range []int{0, -1, -2, math.MinInt} {
		expectStep(t, delayStep("n"), onward(), cell("n", n))
	}
	for _, n := range []int{1, 2, 3, 1000, math.MaxInt} {
		expectStep(t, delayStep("n"), staying(n), cell("n", n))
	}
}

// P11.3: a delay that has begun goes on, whatever its expression is.
func TestScanGoesOnWithDelays(t *testing.T) {
	for _, s := range []api.Step{delayStep("7"), delayStep("0"), delayStep("x"), delayStep("1 / 0"), with(delayStep("1"), api.Expr{Op: 17})} {
		for _, left := range []int{2, 3, 1000, math.MaxInt} {
			expectScan(t, between(s), at(1, left), nil, staying(left-1))
		}
		expectScan(t, between(s), at(1, 1), nil, onward())
		last := onward()
		last.done = true
		expectScan(t, between(s)[:2], at(1, 1), nil, last)
	}
	changing := between(delayStep("n"))
	m := at(1, 0)
	for i, want := range []int{3, 2, 1, 0} {
		got := scan(changing, m, cell("n", 3-2*i)) // what n becomes later does not matter
		if m = got.m; m.Left != want {
			t.Errorf("after %d scans: %v", i+1, got)
		}
	}
}

// P11.3: a jump leads to each step or behind the last one, and nowhere else.
func TestScanJumps(t *testing.T) {
	for steps := 1; steps <= 17; steps++ {
		for pc := range steps {
			for _, n := range []int{math.MinInt, -2, -1, 0, 1, pc, pc + 1, steps - 1, steps, steps + 1, math.MaxInt} {
				l := make([]api.Step, steps)
				l[pc] = with(gotoStep(n), tree("x / 0"))
				want := scanned{m: at(n, 0), done: n == steps}
				if n < 0 || n > steps {
					want = scanned{m: at(pc, 0), e: api.ErrArg}
				}
				expectScan(t, l, at(pc, 0), nil, want)
			}
		}
	}
}

// P11.3: an Op that does not exist is passed over; its expression is not evaluated.
func TestScanOfUnknownOps(t *testing.T) {
	for _, op := range []int{-1, 8, 9, 100, math.MinInt, math.MaxInt} {
		for _, e := range append(wrongTrees(), tree("x"), tree("1 / 0"), tree("1"), tree("0")) {
			expectStep(t, api.Step{Op: op, Name: "v", To: "k", N: 1, E: e}, onward())
		}
	}
}

// P11.3: what expr.Eval refuses leaves the position, without effects, and also at the last step the program is not finished.
func TestScanOfErrors(t *testing.T) {
	env := []api.Cell{cell("t", math.MaxInt), cell("z", 0)}
	for op := api.StepSet; op < api.StepGoto; op++ {
		s := api.Step{Op: op, Name: "k", To: "m"}
		for text, e := range map[string]api.Errno{"x": api.ErrName, "t + 1": api.ErrRange, "1 / z": api.ErrZero, "x / 0": api.ErrName, "0 * x": api.ErrName, "t * t | x": api.ErrRange} {
			expectStep(t, with(s, tree(text)), failing(e), env...)
		}
		for _, e := range wrongTrees() {
			expectStep(t, with(s, e), failing(api.ErrArg), env...)
		}
		expectStep(t, with(s, tree("t")), failing(api.ErrName))
	}
}

// P11.3: Scan asks for nothing but the position that Check asks for.
func TestScanOfProgramsThatCheckRefuses(t *testing.T) {
	for _, x := range wrongSteps() {
		l := between(x.step)
		expectScan(t, l, at(0, 0), nil, scanned{m: at(1, 0), effects: []api.Effect{{Op: api.StepNote, Name: "a"}}})
		expectScan(t, l, at(2, 0), nil, scanned{m: at(3, 0), effects: []api.Effect{{Op: api.StepNote, Name: "b"}}, done: true})
	}
	long := slices.Repeat([]api.Step{noteStep("a")}, 1000000)
	note := []api.Effect{{Op: api.StepNote, Name: "a"}}
	expectLong := func(pc int, want scanned) {
		t.Helper()
		if got := scan(long, at(pc, 0)); got.String() != want.String() {
			t.Errorf("step %d of a million: %v, not %v", pc, got, want)
		}
	}
	expectLong(16, scanned{m: at(17, 0), effects: note})
	expectLong(999999, scanned{m: at(1000000, 0), effects: note, done: true})
	expectLong(1000000, scanned{m: at(1000000, 0), done: true})
	expectLong(1000001, scanned{e: api.ErrArg})
}

// P11.3: the first cell with a name counts, however many there are.
func TestScanOfManyCells(t *testing.T) {
	env := append(slices.Repeat([]api.Cell{cell("x", 1)}, 1000000), cell("n", 5), cell("n", 6))
	got := scan([]api.Step{setStep("v", "n")}, at(0, 0), env...)
	if want := (scanned{m: at(1, 0), effects: []api.Effect{{Op: api.StepSet, Name: "v", N: 5}}, done: true}); got.String() != want.String() {
		t.Errorf("%v, not %v", got, want)
	}
}

// R3 and R5: no call changes what it is given, what it returns may be changed, and it returns the same again.
func TestNothingIsSharedOrKept(t *testing.T) {
	program := func() []api.Step { return append(longest(), noteStep("a"), gotoStep(-1)) }
	l, env := program(), []api.Cell{cell("t", 6), cell("goal", 2), cell("v", 4)}
	outs, vessels, names := slices.Clone(someOuts), slices.Clone(someVessels), slices.Clone(someNames)
	var first []string
	for round := range 3 {
		for pc := range len(l) + 2 {
			got := scan(l, at(pc, 0), env...)
			if round == 0 {
				first = append(first, got.String())
			}
			if got.String() != first[pc] {
				t.Errorf("round %d at %d: %v, not %v", round, pc, got, first[pc])
			}
			for i := range got.effects {
				got.effects[i] = api.Effect{Op: 99, Name: "x"}
			}
			_ = append(got.effects, api.Effect{Op: 98})
		}
		Check(l[:16], outs, vessels, names)
		Right(l, at(2, 1))
		Ends(l)
	}
	if !reflect.DeepEqual(l, program()) || !slices.Equal(env, []api.Cell{cell("t", 6), cell("goal", 2), cell("v", 4)}) {
		t.Errorf("a program or its cells are changed")
	}
	if !slices.Equal(outs, someOuts) || !slices.Equal(vessels, someVessels) || !slices.Equal(names, someNames) {
		t.Errorf("a list of names is changed")
	}
}
