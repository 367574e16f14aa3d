package rung

import (
	"fmt"
	"math/rand"
	"slices"
	"testing"

	"malthouse/api"
	"malthouse/expr"
	"malthouse/lex"
)

// The chapter once more, built another way: the code of a rung becomes a formula, and bits have their values by their names.

// state is what a formula is evaluated with.
type state struct {
	bits map[string]bool
	env  []api.Cell
}

type formula func(s state) bool

func referenceBits(l []api.Rung) []string {
	var names []string
	for _, r := range l {
		if slices.Contains([]int{0, 1, 2}, r.Kind) && !slices.Contains(names, r.Name) {
			names = append(names, r.Name)
		}
	}
	return names
}

// signature is, for each Op, what it has beside it (b: a bit, e: an expression, -: nothing), and a digit for the elements that it takes. Each one puts one element.
var signature = []string{"b0", "b0", "e0", "b1", "b1", "b1", "b1", "-2", "-2", "-1"}

// referenceCode is the formula of a code, or what is wrong with it.
func referenceCode(code []api.Ins, bits, tags []string) (formula, api.Errno) {
	var stack []formula
	for _, in := range code {
		if in.Op < 0 || in.Op > 9 {
			return nil, 1
		}
		has, takes := signature[in.Op][0], int(signature[in.Op][1]-'0')
		e := in.E
		switch {
		case has != 'b' && in.Name != "", has != 'e' && (e.Op != 0 || e.N != 0 || e.Name != "" || len(e.Kids) > 0):
			return nil, 1
		case has == 'b' && !slices.Contains(bits, in.Name):
			return nil, 21
		case has == 'e' && slices.ContainsFunc(expr.Names(e), func(name string) bool { return !slices.Contains(tags, name) }):
			return nil, 21
		case has == 'e' && !expr.May(e), len(stack) < takes:
			return nil, 1
		}
		below := len(stack) - takes
		stack = append(stack[:below:below], referenceIns(in, stack[below:]))
		if len(stack) > 8 {
			return nil, 1
		}
	}
	if len(stack) != 1 {
		return nil, 1
	}
	return stack[0], 0
}

// referenceIns is the formula of an instruction that takes these.
func referenceIns(in api.Ins, of []formula) formula {
	bit := func(s state) bool { return s.bits[in.Name] }
	not := func(f formula) formula { return func(s state) bool { return !f(s) } }
	both := func(f, g formula) formula { return func(s state) bool { return f(s) && g(s) } }
	one := func(f, g formula) formula { return not(both(not(f), not(g))) }
	switch in.Op {
	case 0:
		return bit
	case 1:
		return not(bit)
	case 2:
		return func(s state) bool {
			n, e := expr.Eval(in.E, s.env)
			return e == 0 && n != 0
		}
	case 3:
		return both(of[0], bit)
	case 4:
		return both(of[0], not(bit))
	case 5:
		return one(of[0], bit)
	case 6:
		return one(of[0], not(bit))
	case 7:
		return both(of[0], of[1])
	case 8:
		return one(of[0], of[1])
	}
	return not(of[0])
}

func referenceRung(r api.Rung, bits, tags, phases []string) (formula, api.Errno) {
	switch {
	case r.Kind < 0 || r.Kind > 4 || !lex.Name(r.Name):
		return nil, 1
	case (r.Kind == 3 || r.Kind == 4) && !slices.Contains(phases, r.Name):
		return nil, 21
	case len(r.Code) > 12:
		return nil, 2
	}
	return referenceCode(r.Code, bits, tags)
}

func referenceCheck(l []api.Rung, tags, phases []string) ([]formula, api.Errno) {
	if len(l) > 12 {
		return nil, 2
	}
	var all []formula
	for _, r := range l {
		f, e := referenceRung(r, referenceBits(l), tags, phases)
		if e != 0 {
			return nil, e
		}
		all = append(all, f)
	}
	return all, 0
}

// used are all tags and all phases that rungs name.
func used(l []api.Rung) (tags, phases []string) {
	for _, r := range l {
		phases = append(phases, r.Name)
		for _, in := range r.Code {
			tags = append(tags, expr.Names(in.E)...)
		}
	}
	return tags, phases
}

func referenceRun(l []api.Rung, bits []bool, env []api.Cell) ([]bool, []string, []string) {
	tags, phases := used(l)
	all, e := referenceCheck(l, tags, phases)
	names := referenceBits(l)
	if e != 0 || len(names) != len(bits) {
		return nil, nil, nil
	}
	s := state{bits: map[string]bool{}, env: env}
	for i, name := range names {
		s.bits[name] = bits[i]
	}
	lists := map[int][]string{}
	for i, r := range l {
		outcome := all[i](s)
		switch {
		case r.Kind == 0, r.Kind == 1 && outcome, r.Kind == 2 && outcome:
			s.bits[r.Name] = outcome && r.Kind != 2
		case r.Kind > 2 && !outcome && !slices.Contains(lists[r.Kind], r.Name):
			lists[r.Kind] = append(lists[r.Kind], r.Name)
		}
	}
	now := make([]bool, len(names))
	for i, name := range names {
		now[i] = s.bits[name]
	}
	return now, lists[3], lists[4]
}

// source reads numbers from bytes; zeros after their end.
type source struct{ told []byte }

func (s *source) next() int {
	if len(s.told) == 0 {
		return 0
	}
	x := s.told[0]
	s.told = s.told[1:]
	return int(x)
}

// among is one of n numbers, and seldom tells one time in fifty, but never after the end.
func (s *source) among(n int) int { return s.next() % n }
func (s *source) seldom() bool    { return s.next() > 250 }

var expressions = []string{"0", "1", "t", "v", "t < v", "t - v", "-t", "t / v", "!t | v", "t & u", "w"}

// code is one that is told; most are valid. Bits of most instructions are among names.
func (s *source) code(names []string) []api.Ins {
	var code []api.Ins
	depth, n := 0, s.among(9)
	for len(code) < n || depth > 1 && len(code) < 12 {
		op := s.among(10)
		if len(code) >= n && !s.seldom() {
			op = 7 + s.among(2)
		}
		takes := int(signature[op][1] - '0')
		if takes > depth && !s.seldom() {
			op, takes = 2, 0
		}
		if signature[op][0] == 'b' && len(names) == 0 && !s.seldom() {
			op = []int{2, 9}[takes]
		}
		depth += 1 - takes
		code = append(code, s.instruction(op, names))
	}
	return code
}

func (s *source) instruction(op int, names []string) api.Ins {
	in := api.Ins{Op: op}
	if signature[op][0] == 'b' || s.seldom() {
		names = append(slices.Clone(names), "x")
		in.Name = names[s.among(len(names))]
		if in.Name == "x" && !s.seldom() {
			in.Name = names[0]
		}
	}
	if signature[op][0] == 'e' || s.seldom() {
		in = api.Ins{Op: op, Name: in.Name, E: compare(expressions[s.among(len(expressions))]).E}
	}
	if s.seldom() {
		in.E.N--
	}
	if s.seldom() {
		in.Op = []int{-1, 10, 11}[s.among(3)]
	}
	return in
}

// ladder is rungs that are told, most of them valid.
func (s *source) ladder() []api.Rung {
	l := make([]api.Rung, s.among(8))
	if s.seldom() {
		l = make([]api.Rung, 12+s.among(3))
	}
	for i := range l {
		l[i].Kind = s.among(5)
		l[i].Name = []string{"a", "b", "c", "d"}[s.among(4)]
		if s.seldom() {
			l[i].Kind = []int{-1, 5}[s.among(2)]
		}
		if s.seldom() {
			l[i].Name = []string{"", "x", "1"}[s.among(3)]
		}
	}
	for i := range l {
		l[i].Code = s.code(referenceBits(l))
		if s.seldom() {
			l[i].Code = append(l[i].Code, slices.Repeat(some(1, ins(api.InNot, "")), 12)...)
		}
	}
	return l
}

// met counts what the calls have come to, so that a test can tell whether they came where it matters.
type met map[string]int

// script holds the calls on rungs that are told against the reference. The bits of each Run are those of the one before.
func (m met) script(t *testing.T, told []byte) {
	if len(told) > 3000 {
		return
	}
	s := &source{told}
	l := s.ladder()
	names := referenceBits(l)
	if !slices.Equal(Bits(l), names) {
		t.Fatalf("Bits(%v) = %q, not %q", l, Bits(l), names)
	}
	m.check(t, l, []string{"t", "u", "v", "w"}, []string{"a", "b", "c", "d"})
	m.check(t, l, []string{"t", "v"}, []string{"a", "b"})
	bits := make([]bool, len(names))
	for range 6 {
		for i := range bits {
			if s.among(3) == 0 {
				bits[i] = !bits[i]
			}
		}
		if s.seldom() {
			bits = append(bits, false)
		}
		bits = m.run(t, l, bits, []api.Cell{cell("t", s.among(5)-2), cell("v", s.among(3)-1), cell("t", 7), cell("u", 1)})
	}
}

func (m met) check(t *testing.T, l []api.Rung, tags, phases []string) {
	t.Helper()
	_, want := referenceCheck(l, tags, phases)
	m[fmt.Sprint("Check ", want)]++
	if e := Check(l, tags, phases); e != want {
		t.Fatalf("Check(%v, %q, %q): error %d, not %d", l, tags, phases, e, want)
	}
}

func (m met) run(t *testing.T, l []api.Rung, bits []bool, env []api.Cell) []bool {
	t.Helper()
	now, holds, bars := Run(l, bits, env)
	wantNow, wantHolds, wantBars := referenceRun(l, bits, env)
	if told(now, holds, bars) != told(wantNow, wantHolds, wantBars) {
		t.Fatalf("Run(%v, %v, %v) = %s, not %s", l, bits, env, told(now, holds, bars), told(wantNow, wantHolds, wantBars))
	}
	for name, n := range map[string]int{"bits": len(now), "holds": len(holds), "bars": len(bars), "nothing": 0} {
		if n > 0 {
			m[name]++
		}
	}
	if slices.Contains(now, true) && slices.Contains(now, false) {
		m["mixed"]++
	}
	if len(now) == 0 {
		return make([]bool, len(referenceBits(l)))
	}
	return now
}

func TestRandomRungs(t *testing.T) {
	random := rand.New(rand.NewSource(9))
	m := met{}
	for range 20000 {
		calls := make([]byte, random.Intn(600))
		random.Read(calls)
		m.script(t, calls)
	}
	for _, x := range []string{"Check 0", "Check 1", "Check 2", "Check 21", "bits", "mixed", "holds", "bars"} {
		if m[x] < 500 {
			t.Errorf("%s: %d times", x, m[x])
		}
	}
}

// shortCodes calls f for all codes of up to n of some instructions.
func shortCodes(n int, of []api.Ins, f func(code []api.Ins)) {
	var grow func(code []api.Ins)
	grow = func(code []api.Ins) {
		f(code)
		if len(code) == n {
			return
		}
		for _, in := range of {
			grow(append(code, in))
		}
	}
	grow(nil)
}

// plainIns are instructions of all kinds without a negation, and negatedIns the others.
func plainIns() []api.Ins {
	return []api.Ins{ins(api.InLd, "a"), ins(api.InLd, "b"), compare("t"), ins(api.InAnd, "a"), ins(api.InAnd, "b"), ins(api.InOr, "a"), ins(api.InOr, "b"), ins(api.InAnb, ""), ins(api.InOrb, "")}
}

func negatedIns() []api.Ins {
	return []api.Ins{ins(api.InLdn, "a"), ins(api.InLdn, "b"), ins(api.InAndn, "a"), ins(api.InAndn, "b"), ins(api.InOrn, "a"), ins(api.InOrn, "b"), ins(api.InNot, "")}
}

// TestAllShortCodes goes through all codes of up to four instructions, in all states.
func TestAllShortCodes(t *testing.T) {
	l := []api.Rung{made(api.RungBit, "a"), made(api.RungReset, "b", compare("0"))}
	valid := 0
	shortCodes(4, append(plainIns(), negatedIns()...), func(code []api.Ins) {
		l[0].Code = code
		_, want := referenceCheck(l, someTags, somePhases)
		if e := Check(l, someTags, somePhases); e != want {
			t.Fatalf("Check(%v): error %d, not %d", l, e, want)
		}
		if want != 0 {
			return
		}
		valid++
		for _, s := range states(3) {
			env := []api.Cell{cell("t", map[bool]int{true: 1}[s[2]])}
			now, _, _ := Run(l, s[:2], env)
			if want, _, _ := referenceRun(l, s[:2], env); !slices.Equal(now, want) {
				t.Fatalf("Run(%v, %v, %v) = %v, not %v", l, s[:2], env, now, want)
			}
		}
	})
	if valid < 1000 {
		t.Errorf("%d codes are valid", valid)
	}
}

// P9.4: without negations, no outcome changes from true to false when a bit or a comparison changes from false to true.
func TestOutcomesRiseWithBits(t *testing.T) {
	l := []api.Rung{made(api.RungPerm, "heat"), made(api.RungReset, "a", compare("0")), made(api.RungReset, "b", compare("0"))}
	outcomes := map[bool]int{}
	shortCodes(5, plainIns(), func(code []api.Ins) {
		l[0].Code = code
		if Check(l, someTags, somePhases) != api.OK {
			return
		}
		var outcome [8]bool
		for i, s := range states(3) {
			_, _, bars := Run(l, s[:2], []api.Cell{cell("t", map[bool]int{true: 1}[s[2]])})
			outcome[i] = len(bars) == 0
			outcomes[outcome[i]]++
			for k := range 3 {
				if i>>k&1 != 0 && outcome[i&^(1<<k)] && !outcome[i] {
					t.Fatalf("the outcome of %v falls when bit %d of %v rises", code, k, s)
				}
			}
		}
	})
	if outcomes[true] < 1000 || outcomes[false] < 1000 {
		t.Errorf("the outcomes were %v", outcomes)
	}
}

func FuzzRungs(f *testing.F) {
	f.Add([]byte{2, 0, 1, 0, 0, 0, 4, 1, 0, 0, 2, 2, 0, 4, 0, 0, 1, 1, 0, 0})
	f.Add([]byte{7, 0, 0, 0, 0, 0, 3, 1, 0, 0, 1, 2, 0, 0})
	f.Fuzz(func(t *testing.T, told []byte) { met{}.script(t, told) })
}
