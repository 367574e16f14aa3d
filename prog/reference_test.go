package prog

import (
	"fmt"
	"iter"
	"math/rand"
	"reflect"
	"slices"
	"testing"

	"malthouse/api"
	"malthouse/expr"
	"malthouse/lex"
)

// The chapter once more, built another way: a program is one loop that tells what each scan comes to, where a delay is a loop inside it, and a step is checked by conditions in a list.

// referenceScans tells what the scans from a position on come to, one after the other, without an end. The cells of each scan are asked for when it begins.
func referenceScans(l []api.Step, m api.Mach, env func() []api.Cell) iter.Seq[scanned] {
	return func(yield func(scanned) bool) {
		begun := m.PC >= 0 && m.PC < len(l) && l[m.PC].Op == 2 && m.Left > 0
		if m.PC < 0 || m.PC > len(l) || m.Left != 0 && !begun {
			for yield(scanned{e: 1}) {
			}
			return
		}
		r := referenceRun{l: l, env: env, yield: yield}
		for left := m.Left - 1; left > 0; left-- {
			if !r.tell(m.PC, left) {
				return
			}
		}
		pc := m.PC
		if begun {
			pc++
			if !r.tell(pc, 0) {
				return
			}
		}
		for pc >= 0 {
			pc = r.step(pc)
		}
	}
}

type referenceRun struct {
	l     []api.Step
	env   func() []api.Cell
	yield func(scanned) bool
}

// tell tells of a scan that leads to a position, and whether a next one is wanted.
func (r referenceRun) tell(pc, left int, effects ...api.Effect) bool {
	return r.yield(scanned{m: at(pc, left), effects: effects, done: pc == len(r.l)})
}

// step is the number of the step that is to be done behind a step, when all its scans have been told; negative if no next one is wanted.
func (r referenceRun) step(pc int) int {
	env := r.env()
	next, e := pc, api.OK
	var effects []api.Effect
	if pc < len(r.l) {
		s := r.l[pc]
		n := 0
		if slices.Contains([]int{0, 1, 2, 3, 4, 5}, s.Op) {
			n, e = expr.Eval(s.E, env)
		}
		next = pc + 1
		switch {
		case e != 0:
		case s.Op == 0 || s.Op == 3 || s.Op == 4 || s.Op == 5:
			effects = []api.Effect{{Op: s.Op, Name: s.Name, To: s.To, N: n}}
		case s.Op == 7:
			effects = []api.Effect{{Op: 7, Name: s.Name}}
		case s.Op == 1 && n == 0:
			next = pc
		case s.Op == 2:
			for left := n; left > 0; left-- {
				if !r.tell(pc, left) {
					return -1
				}
			}
		case s.Op == 6 && (s.N < 0 || s.N > len(r.l)):
			e = 1
		case s.Op == 6:
			next = s.N
		}
	}
	if e != 0 {
		if !r.yield(scanned{m: at(pc, 0), e: e}) {
			return -1
		}
		return pc
	}
	if !r.tell(next, 0, effects...) {
		return -1
	}
	return next
}

// blank is a step without what its Op uses.
func blank(s api.Step) api.Step {
	for _, use := range []struct {
		ops   []int
		field func()
	}{
		{[]int{0, 3, 4, 5, 7}, func() { s.Name = "" }},
		{[]int{3, 5}, func() { s.To = "" }},
		{[]int{0, 1, 2, 3, 4, 5}, func() { s.E = api.Expr{} }},
		{[]int{6}, func() { s.N = 0 }},
	} {
		if slices.Contains(use.ops, s.Op) {
			use.field()
		}
	}
	if len(s.E.Kids) == 0 {
		s.E.Kids = nil
	}
	return s
}

func referenceCheck(l []api.Step, outs, vessels, names []string) api.Errno {
	if len(l) > 16 {
		return 2
	}
	for _, s := range l {
		if e := referenceStep(s, len(l), outs, vessels, names); e != 0 {
			return e
		}
	}
	return 0
}

func referenceStep(s api.Step, steps int, outs, vessels, names []string) api.Errno {
	in := func(name string, l []string) bool { return slices.Index(l, name) >= 0 }
	_, quoted := lex.Quote(s.Name)
	unknown := func(name string) bool { return !in(name, names) }
	for _, x := range []struct {
		ops    []int
		broken bool
		e      api.Errno
	}{
		{[]int{s.Op}, s.Op < 0 || s.Op > 7 || !reflect.DeepEqual(blank(s), api.Step{Op: s.Op}), 1},
		{[]int{0}, !in(s.Name, outs), 4},
		{[]int{3, 4, 5}, !in(s.Name, vessels), 4},
		{[]int{5}, !in(s.To, vessels), 4},
		{[]int{3}, !lex.Name(s.To), 1},
		{[]int{5}, s.Name == s.To, 1},
		{[]int{7}, !quoted, 1},
		{[]int{6}, s.N < 0 || s.N > steps, 1},
		{[]int{0, 1, 2, 3, 4, 5}, !expr.May(s.E), 1},
		{[]int{0, 1, 2, 3, 4, 5}, slices.ContainsFunc(expr.Names(s.E), unknown), 4},
	} {
		if x.broken && slices.Contains(x.ops, s.Op) {
			return x.e
		}
	}
	return 0
}

// source reads numbers from bytes; zeros after their end.
type source struct{ told []byte }

func (s *source) next() int {
	if len(s.told) == 0 {
		return 0
	}
	x := s.told[0]
	s.told = s.told[1:]
	return int(x)
}

// among is one of n numbers, and seldom tells one time in sixty, but never after the end.
func (s *source) among(n int) int { return s.next() % n }
func (s *source) seldom() bool    { return s.next() > 251 }

func (s *source) one(of ...string) string { return of[s.among(len(of))] }

// step is one that is told; most are valid.
func (s *source) step(steps int) api.Step {
	x := oneOfEach()[s.among(8)]
	switch x.Op {
	case api.StepSet:
		x.Name = s.one("v", "w")
	case api.StepCharge, api.StepDraw:
		x.Name = s.one("k", "m")
	case api.StepMove:
		x.Name = s.one("k", "m")
		x.To = map[string]string{"k": "m", "m": "k"}[x.Name]
	case api.StepGoto:
		x.N = s.among(steps + 1)
	case api.StepNote:
		x.Name = s.one("", "a", "a b")
	}
	if x.Op < api.StepGoto {
		x.E = tree(s.one("0", "1", "3", "t", "v", "goal", "t < v", "t - v", "-t", "t / v", "!t | v"))
	}
	return s.spoil(x)
}

// spoil changes a step now and then, so that it may not be valid any more.
func (s *source) spoil(x api.Step) api.Step {
	if s.seldom() {
		x.Op = s.among(10) - 1
	}
	if s.seldom() {
		x.Name = s.one("", "x", "k", "v", "\"")
	}
	if s.seldom() {
		x.To = s.one("", "x", "k", "v", "1", "aaaaaaaaaaaaa")
	}
	if s.seldom() {
		x.N = s.among(30) - 3
	}
	if s.seldom() {
		x.E = tree(s.one("0", "x", "w", "1 / 0", "9223372036854775807 + t"))
	}
	if s.seldom() {
		x.E.N--
	}
	if s.seldom() {
		x.E.Kids = []api.Expr{}
	}
	return x
}

func (s *source) program() []api.Step {
	l := make([]api.Step, s.among(9))
	if s.seldom() {
		l = make([]api.Step, 16+s.among(3))
	}
	for i := range l {
		l[i] = s.step(len(l))
	}
	return l
}

func (s *source) env() []api.Cell {
	env := []api.Cell{cell("t", s.among(5)-1), cell("v", s.among(3)-1), cell("t", 7), cell("goal", s.among(4))}
	if s.seldom() {
		env = env[:1]
	}
	return env
}

// met counts what the calls have come to, so that a test can tell whether they came where it matters.
type met map[string]int

// script holds the calls on a program that is told against the reference.
func (m met) script(t *testing.T, told []byte) {
	if len(told) > 3000 {
		return
	}
	s := &source{told}
	l := s.program()
	for _, names := range [][]string{someNames, {"v"}} {
		want := referenceCheck(l, someOuts, someVessels, names)
		m[fmt.Sprint("Check ", want)]++
		if e := Check(l, someOuts, someVessels, names); e != want {
			t.Fatalf("Check(%v, %q, %q, %q): error %d, not %d", l, someOuts, someVessels, names, e, want)
		}
	}
	back := false
	for i, x := range l {
		back = back || x.Op == 6 && x.N <= i
	}
	m[fmt.Sprint("Ends ", !back)]++
	if Ends(l) == back {
		t.Fatalf("Ends(%v) = %v", l, back)
	}
	m.scans(t, s, l, at(0, 0))
	m.scans(t, s, l, at(s.among(len(l)+3)-1, s.among(4)-1))
}

// scans goes on from a position, with other cells in each scan.
func (m met) scans(t *testing.T, s *source, l []api.Step, now api.Mach) {
	t.Helper()
	env, n := s.env(), 0
	for want := range referenceScans(l, now, func() []api.Cell { return env }) {
		got := scan(l, now, env...)
		m.count(now, got)
		if got.String() != want.String() {
			t.Fatalf("Scan(%v, %+v, %v) = %v, not %v", l, now, env, got, want)
		}
		if !Right(l, got.m) {
			t.Fatalf("Scan(%v, %+v, %v) = %v, which is not valid", l, now, env, got)
		}
		if Right(l, now) { // else the next scan yields the same error
			now = got.m
		}
		if n++; n == 25 {
			return
		}
		env = s.env()
	}
}

func (m met) count(now api.Mach, got scanned) {
	m[fmt.Sprint("Scan ", got.e)]++
	for what, is := range map[string]bool{"effects": len(got.effects) > 0, "done": got.done, "delayed": now.Left > 1, "stays": got.e == 0 && got.m == now && !got.done, "back": got.m.PC < now.PC && got.e == 0} {
		if is {
			m[what]++
		}
	}
}

func TestRandomPrograms(t *testing.T) {
	random := rand.New(rand.NewSource(11))
	m := met{}
	for range 20000 {
		calls := make([]byte, random.Intn(500))
		random.Read(calls)
		m.script(t, calls)
	}
	for _, x := range []string{"Check 0", "Check 1", "Check 2", "Check 4", "Ends true", "Ends false", "Scan 0", "Scan 1", "Scan 21", "Scan 23", "effects", "done", "delayed", "stays", "back"} {
		if m[x] < 300 {
			t.Errorf("%s: %d times", x, m[x])
		}
	}
}

// P11.5: a delay of n takes n + 1 scans, and one at all if n is not positive.
func TestScansOfADelay(t *testing.T) {
	for n := -3; n < 300; n++ {
		l := []api.Step{delayStep("n")}
		count, m, done := 0, at(0, 0), false
		for !done && count < 1000 {
			got := scan(l, m, cell("n", n))
			if got.e != api.OK || len(got.effects) > 0 {
				t.Fatalf("a delay of %d: %v", n, got)
			}
			m, done = got.m, got.done
			count++
		}
		if want := max(n, 0) + 1; count != want {
			t.Errorf("a delay of %d takes %d scans, not %d", n, count, want)
		}
	}
}

// P11.5: programs that Check accepts and that do not lead back are finished in time, if waits become true: they take a scan for each step that they come to and those of its delay, and never more than for all steps.
func TestProgramsAreFinishedInTime(t *testing.T) {
	random := rand.New(rand.NewSource(115))
	met := map[string]int{}
	for range 20000 {
		l, delays := forwardProgram(random)
		if Check(l, someOuts, someVessels, someNames) != api.OK || !Ends(l) {
			t.Fatalf("%v is not valid, or leads back", l)
		}
		env := []api.Cell{cell("t", 9), cell("v", 1), cell("goal", 2)}
		m, count, jumped := at(0, 0), 0, false
		for done := len(l) == 0; !done; count++ {
			got := scan(l, m, env...)
			if got.e != api.OK || count > len(l)+delays {
				t.Fatalf("%v: after %d scans %v", l, count, got)
			}
			jumped = jumped || got.m.PC > m.PC+1
			m, done = got.m, got.done
		}
		switch {
		case count > len(l)+delays || !jumped && count != len(l)+delays:
			t.Fatalf("%v takes %d scans, with delays of %d", l, count, delays)
		case jumped:
			met["jumped"]++
		case delays > 0:
			met["delayed"]++
		}
	}
	if met["jumped"] < 1000 || met["delayed"] < 1000 {
		t.Errorf("too few programs: %v", met)
	}
}

// forwardProgram is one whose jumps lead forward only, and for how many scans its delays wait together.
func forwardProgram(random *rand.Rand) ([]api.Step, int) {
	l := make([]api.Step, random.Intn(17))
	delays := 0
	for i := range l {
		l[i] = oneOfEach()[random.Intn(8)]
		switch l[i].Op {
		case api.StepGoto:
			l[i].N = i + 1 + random.Intn(len(l)-i)
		case api.StepDelay:
			n := random.Intn(6) - 1
			l[i] = delayStep(lex.Show(n))
			delays += max(n, 0)
		}
	}
	return l, delays
}

// P11.3: a wait that becomes true only later delays its program by these scans, and nothing else.
func TestWaitsThatBecomeTrue(t *testing.T) {
	for n := range 50 {
		l := []api.Step{setStep("v", "1"), waitStep("t"), setStep("v", "0")}
		m, count, effects := at(0, 0), 0, 0
		for done := false; !done && count < 1000; count++ {
			got := scan(l, m, cell("t", max(count-n, 0)))
			m, done, effects = got.m, got.done, effects+len(got.effects)
		}
		if count != 3+n || effects != 2 {
			t.Errorf("t rises after %d scans: %d scans, %d effects", n, count, effects)
		}
	}
}

func FuzzPrograms(f *testing.F) {
	f.Add([]byte{3, 0, 0, 0, 0, 3, 0, 1, 6})
	f.Add([]byte{5, 0, 2, 2, 0, 0, 0, 0, 0, 0, 0, 6, 0, 0})
	f.Fuzz(func(t *testing.T, told []byte) { met{}.script(t, told) })
}
