package expr

import (
	"math"
	"math/rand"
	"reflect"
	"slices"
	"testing"

	"malthouse/api"
)

const (
	most  = math.MaxInt64
	least = math.MinInt64
)

func expectValue(t *testing.T, s string, env []api.Cell, want int, wantF api.Errno) {
	t.Helper()
	if n, f := Eval(parse(s), env); n != want || f != wantF {
		t.Errorf("Eval(%q, %v) = %d %d, not %d %d", s, env, n, f, want, wantF)
	}
}

func TestTheExamples(t *testing.T) {
	env := []api.Cell{{Name: "x", N: 7}}
	for s, n := range map[string]int{"1 + x * 2": 15, "(1 - (2 - 3)) % 2": 0, "!(x > 3 & x < 9) | 0": 0, "-x / 2": -3} {
		expectValue(t, s, env, n, api.OK)
		if got := Print(parse(s)); got != s {
			t.Errorf("%q is printed as %q", s, got)
		}
	}
	expectValue(t, "x / 0", env, 0, api.ErrZero)
	expectValue(t, "y", env, 0, api.ErrName)
	expectValue(t, "9223372036854775807 + 1", env, 0, api.ErrRange)
	for s, at := range map[string]int{"1 < 2 < 3": 6, "(1": 2, "": 0} {
		expectFault(t, s, api.ErrToken, at)
	}
}

func TestEvalOfEachOperator(t *testing.T) {
	for _, c := range []struct {
		s       string
		a, b, n int
		f       api.Errno
	}{
		{"-a", 5, 0, -5, api.OK}, {"-a", -5, 0, 5, api.OK}, {"-a", most, 0, -most, api.OK}, {"-a", least + 1, 0, most, api.OK}, {"-a", least, 0, 0, api.ErrRange},
		{"!a", 0, 0, 1, api.OK}, {"!a", 1, 0, 0, api.OK}, {"!a", -1, 0, 0, api.OK}, {"!a", least, 0, 0, api.OK},
		{"a + b", most, 0, most, api.OK}, {"a + b", most, 1, 0, api.ErrRange}, {"a + b", most, least, -1, api.OK}, {"a + b", least, 0, least, api.OK},
		{"a + b", least, -1, 0, api.ErrRange}, {"a + b", least, least, 0, api.ErrRange}, {"a + b", most, most, 0, api.ErrRange}, {"a + b", -1, least + 1, least, api.OK},
		{"a - b", least, 1, 0, api.ErrRange}, {"a - b", least, -1, least + 1, api.OK}, {"a - b", 0, least, 0, api.ErrRange}, {"a - b", -1, least, most, api.OK},
		{"a - b", most, -1, 0, api.ErrRange}, {"a - b", most, most, 0, api.OK}, {"a - b", least, least, 0, api.OK}, {"a - b", -2, most, 0, api.ErrRange}, {"a - b", -1, most, least, api.OK},
		{"a * b", 3037000499, 3037000499, 9223372030926249001, api.OK}, {"a * b", 3037000500, 3037000500, 0, api.ErrRange}, {"a * b", least, -1, 0, api.ErrRange},
		{"a * b", -1, least, 0, api.ErrRange}, {"a * b", least, 1, least, api.OK}, {"a * b", 1, least, least, api.OK}, {"a * b", least, 0, 0, api.OK}, {"a * b", 0, least, 0, api.OK},
		{"a * b", 1 << 62, -2, least, api.OK}, {"a * b", 1 << 62, 2, 0, api.ErrRange}, {"a * b", -1 << 62, 2, least, api.OK}, {"a * b", least, 2, 0, api.ErrRange},
		{"a * b", 1 << 32, 1 << 32, 0, api.ErrRange}, {"a * b", most, -1, -most, api.OK}, {"a * b", least, least, 0, api.ErrRange}, {"a * b", -3, 4, -12, api.OK},
		{"a / b", 7, 2, 3, api.OK}, {"a / b", -7, 2, -3, api.OK}, {"a / b", 7, -2, -3, api.OK}, {"a / b", -7, -2, 3, api.OK}, {"a / b", least, -1, 0, api.ErrRange},
		{"a / b", least, 1, least, api.OK}, {"a / b", most, -1, -most, api.OK}, {"a / b", 0, 0, 0, api.ErrZero}, {"a / b", least, 0, 0, api.ErrZero}, {"a / b", 0, least, 0, api.OK},
		{"a % b", 7, 2, 1, api.OK}, {"a % b", -7, 2, -1, api.OK}, {"a % b", 7, -2, 1, api.OK}, {"a % b", -7, -2, -1, api.OK}, {"a % b", least, -1, 0, api.OK},
		{"a % b", least, 0, 0, api.ErrZero}, {"a % b", 0, 0, 0, api.ErrZero}, {"a % b", least, most, -1, api.OK}, {"a % b", most, least, most, api.OK},
		{"a < b", 1, 2, 1, api.OK}, {"a < b", 2, 2, 0, api.OK}, {"a < b", 3, 2, 0, api.OK}, {"a < b", least, most, 1, api.OK}, {"a < b", most, least, 0, api.OK},
		{"a <= b", 1, 2, 1, api.OK}, {"a <= b", 2, 2, 1, api.OK}, {"a <= b", 3, 2, 0, api.OK}, {"a > b", 1, 2, 0, api.OK}, {"a > b", 2, 2, 0, api.OK}, {"a > b", 3, 2, 1, api.OK},
		{"a >= b", 1, 2, 0, api.OK}, {"a >= b", 2, 2, 1, api.OK}, {"a >= b", 3, 2, 1, api.OK}, {"a == b", 2, 2, 1, api.OK}, {"a == b", 2, -2, 0, api.OK},
		{"a != b", 2, 2, 0, api.OK}, {"a != b", 2, -2, 1, api.OK}, {"a & b", 0, 0, 0, api.OK}, {"a & b", 0, 1, 0, api.OK}, {"a & b", 1, 0, 0, api.OK}, {"a & b", 1, 2, 1, api.OK},
		{"a & b", -4, least, 1, api.OK}, {"a | b", 0, 0, 0, api.OK}, {"a | b", 0, 6, 1, api.OK}, {"a | b", -2, 0, 1, api.OK}, {"a | b", 2, 4, 1, api.OK},
	} {
		expectValue(t, c.s, []api.Cell{{Name: "a", N: c.a}, {Name: "b", N: c.b}}, c.n, c.f)
	}
}

func TestEvalOfAllPairsOfEdges(t *testing.T) {
	edges := []int{0, 1, 2, 3, 7, 1 << 31, 1<<32 - 1, 1 << 32, 3037000499, 3037000500, 1<<62 - 1, 1 << 62, 1<<62 + 1, most - 1, most}
	for _, n := range edges[1:] {
		edges = append(edges, -n)
	}
	edges = append(edges, least)
	for op := api.ExNeg; op <= api.ExOr; op++ {
		e := api.Expr{Op: op, Kids: []api.Expr{nam("a"), nam("b")}[:operators[op].kids]}
		for _, a := range edges {
			for _, b := range edges {
				env := []api.Cell{{Name: "a", N: a}, {Name: "b", N: b}}
				n, f := Eval(e, env)
				if want, wantF := referenceEval(e, env); n != want || f != wantF {
					t.Errorf("%q of %d and %d = %d %d, not %d %d", Print(e), a, b, n, f, want, wantF)
				}
			}
		}
	}
}

func TestEvalTellsTheFirstError(t *testing.T) {
	env := []api.Cell{{Name: "x", N: 7}, {Name: "m", N: least}}
	for s, f := range map[string]api.Errno{
		"y + 1 / 0": api.ErrName, "1 / 0 + y": api.ErrZero, "(m - 1) / 0": api.ErrRange, "x / 0 + -m": api.ErrZero, "-m + x / 0": api.ErrRange, "-y": api.ErrName, "!(1 % 0)": api.ErrZero,
		"0 & y": api.ErrName, "1 | y": api.ErrName, "0 & 1 / 0": api.ErrZero, "1 | -m": api.ErrRange, "y & 0": api.ErrName, "0 * y": api.ErrName, "y / 0": api.ErrName, "0 / y": api.ErrName,
		"y == y": api.ErrName, "x / (y - 1 / 0)": api.ErrName, "m / -1 % 0": api.ErrRange, "m % -1 % 0": api.ErrZero, "m * -1": api.ErrRange, "x * (1 < y)": api.ErrName,
	} {
		expectValue(t, s, env, 0, f)
	}
}

func TestEvalOfNames(t *testing.T) {
	twice := []api.Cell{{Name: "y", N: 1}, {Name: "x", N: 2}, {Name: "x", N: 3}, {Name: "X", N: 4}, {Name: "", N: 5}, {Name: "not a name", N: 6}}
	expectValue(t, "x", twice, 2, api.OK)
	expectValue(t, "X", twice, 4, api.OK)
	expectValue(t, "x - y", twice, 1, api.OK)
	expectValue(t, "z", twice, 0, api.ErrName)
	expectValue(t, "x", nil, 0, api.ErrName)
	expectValue(t, "1 + 2", nil, 3, api.OK)
	expectValue(t, "9223372036854775807", nil, most, api.OK)
}

func TestEvalOfRandomTrees(t *testing.T) {
	random := rand.New(rand.NewSource(10))
	met := map[api.Errno]int{}
	for range 50000 {
		e, env := someTree(random, 1+random.Intn(12)), someEnv(random)
		wasE, wasEnv := deepCopy(e), slices.Clone(env)
		n, f := Eval(e, env)
		want, wantF := 0, api.ErrArg
		if length(text(e)) <= 64 {
			want, wantF = referenceEval(e, env)
		}
		if n != want || f != wantF {
			t.Fatalf("Eval(%q, %v) = %d %d, not %d %d", text(e), env, n, f, want, wantF)
		}
		if !reflect.DeepEqual(e, wasE) || !slices.Equal(env, wasEnv) {
			t.Fatalf("%q or %v was changed", text(wasE), wasEnv)
		}
		met[f]++
	}
	for _, f := range []api.Errno{api.OK, api.ErrName, api.ErrRange, api.ErrZero} {
		if met[f] < 100 {
			t.Errorf("%d was met %d times", f, met[f])
		}
	}
}

func expectFilled(t *testing.T, s string, env []api.Cell, want string) {
	t.Helper()
	e, f := Fill(parse(s), env)
	if f != api.OK || !same(e, parse(want)) || Print(e) != want {
		t.Errorf("Fill(%q, %v) = %q %d, not %q", s, env, Print(e), f, want)
	}
}

func TestFill(t *testing.T) {
	env := []api.Cell{{Name: "a", N: 5}, {Name: "b", N: -5}, {Name: "c", N: least}, {Name: "a", N: 6}, {Name: "d", N: 0}, {Name: "e", N: most}, {Name: "f", N: least + 1}}
	for s, want := range map[string]string{
		"a": "5", "b": "-5", "c": "-9223372036854775807 - 1", "d": "0", "e": "9223372036854775807", "f": "-9223372036854775807", "x": "x", "7": "7", "a + x * a": "5 + x * 5",
		"-b": "--5", "-c": "-(-9223372036854775807 - 1)", "a - b": "5 - -5", "a - c": "5 - (-9223372036854775807 - 1)", "c - a": "-9223372036854775807 - 1 - 5",
		"c * c": "(-9223372036854775807 - 1) * (-9223372036854775807 - 1)", "c < x & !b": "-9223372036854775807 - 1 < x & !-5", "(x | d) % e": "(x | 0) % 9223372036854775807",
	} {
		expectFilled(t, s, env, want)
		expectFilled(t, s, nil, s)
	}
}

func TestFillOfLongTrees(t *testing.T) {
	sum := "x" + repeat(" + 1", 31) // 63 tokens
	expectFilled(t, sum, []api.Cell{{Name: "x", N: 9}}, "9"+sum[1:])
	expectFilled(t, sum, []api.Cell{{Name: "x", N: -9}}, "-9"+sum[1:])
	negated := repeat("-", 63) + "x" // 64 tokens
	expectFilled(t, negated, []api.Cell{{Name: "x", N: 9}}, negated[:63]+"9")
	expectFilled(t, negated[4:], []api.Cell{{Name: "x", N: -9}}, negated[:60]+"9")
	expectFilled(t, negated[6:], []api.Cell{{Name: "x", N: least}}, negated[:57]+"(-9223372036854775807 - 1)")
	for _, c := range []struct {
		s string
		n int
	}{{sum, least}, {negated, -9}, {negated, least}, {negated[4:], least}, {"x" + repeat(" + x", 16) + repeat(" - 1", 15), -1}} {
		if e, f := Fill(parse(c.s), []api.Cell{{Name: "x", N: c.n}}); f != api.ErrLong || !zero(e) {
			t.Errorf("Fill(%q) with %d = %q %d", c.s, c.n, Print(e), f)
		}
	}
}

func TestFillOfRandomTrees(t *testing.T) {
	random := rand.New(rand.NewSource(11))
	met := map[api.Errno]int{}
	for range 30000 {
		e, env := someTree(random, 1+random.Intn(45)), someEnv(random)
		wasE, wasEnv := deepCopy(e), slices.Clone(env)
		got, f := Fill(e, env)
		want, wantF := referenceFill(e, env), api.OK
		switch {
		case length(text(e)) > 64:
			want, wantF = api.Expr{}, api.ErrArg
		case length(text(want)) > 64:
			want, wantF = api.Expr{}, api.ErrLong
		}
		if f != wantF || !same(got, want) {
			t.Fatalf("Fill(%q, %v) = %q %d, not %q %d", text(e), env, text(got), f, text(want), wantF)
		}
		met[f]++
		if f == api.OK {
			expectSameValue(t, e, got, env)
		}
		spoil(&got)
		if !reflect.DeepEqual(e, wasE) || !slices.Equal(env, wasEnv) {
			t.Fatalf("%q or %v was changed", text(wasE), wasEnv)
		}
	}
	if met[api.OK] < 1000 || met[api.ErrLong] < 100 || met[api.ErrArg] < 100 {
		t.Errorf("met: %v", met)
	}
}

// expectSameValue holds a filled tree's value, with env and without it, against that of the tree with env.
func expectSameValue(t *testing.T, e, filled api.Expr, env []api.Cell) {
	t.Helper()
	n, f := Eval(e, env)
	for _, env := range [][]api.Cell{env, nil} {
		if m, g := Eval(filled, env); m != n || g != f {
			t.Fatalf("%q has the value %d %d, filled %q %d %d", Print(e), n, f, Print(filled), m, g)
		}
	}
}

// spoil overwrites all that a tree has, so that what shares memory with it shows.
func spoil(e *api.Expr) {
	for i := range e.Kids {
		spoil(&e.Kids[i])
	}
	*e = api.Expr{Op: -7, N: -7, Name: "?"}
}
