package chart

import (
	"math"
	"math/rand"
	"slices"
	"testing"

	"malthouse/api"
)

// referenceRoll reads P10.4 word by word, over the places of the list: "another one" is one at another place.
func referenceRoll(l []int) int {
	var names []string
	for _, n := range l {
		name := "idle"
		if n >= 0 && n <= 11 {
			name = []string{"idle", "running", "pausing", "paused", "holding", "held", "restarting", "stopping", "stopped", "aborting", "aborted", "complete"}[n]
		}
		names = append(names, name)
	}
	one := func(name string) bool { return slices.Contains(names, name) }
	all := func(name string) bool {
		return !slices.ContainsFunc(names, func(s string) bool { return s != name })
	}
	another := func(name string, others ...string) bool {
		for i, s := range names {
			for k, o := range names {
				if i != k && s == name && slices.Contains(others, o) {
					return true
				}
			}
		}
		return false
	}
	acting := []string{"running", "pausing", "holding", "restarting", "stopping", "aborting"}
	for _, x := range []struct {
		applies bool
		result  string
	}{
		{len(l) == 0, "idle"},
		{one("aborting") || another("aborted", acting...), "aborting"},
		{one("aborted"), "aborted"},
		{one("stopping") || another("stopped", acting...), "stopping"},
		{one("stopped"), "stopped"},
		{one("holding") || another("held", acting...), "holding"},
		{one("held"), "held"},
		{one("restarting"), "restarting"},
		{one("pausing") || another("paused", "running"), "pausing"},
		{one("paused"), "paused"},
		{one("running"), "running"},
		{all("complete"), "complete"},
		{all("idle"), "idle"},
	} {
		if x.applies {
			return state(x.result)
		}
	}
	return state("running")
}

func expectRoll(t *testing.T, want int, l []int) {
	t.Helper()
	if got := Roll(l); got != want {
		t.Errorf("Roll(%v) = %d, not %d", l, got, want)
	}
}

// P10.4: each case, by itself and ahead of later ones.
func TestRoll(t *testing.T) {
	for _, x := range []struct{ want, of string }{
		{"idle", ""},
		{"aborting", "aborting"},
		{"aborting", "aborting complete"},
		{"aborting", "aborting aborted stopping stopped holding held running"},
		{"aborting", "aborted running"},
		{"aborting", "aborted pausing"},
		{"aborting", "aborted holding"},
		{"aborting", "aborted restarting"},
		{"aborting", "aborted stopping"},
		{"aborted", "aborted"},
		{"aborted", "aborted aborted"},
		{"aborted", "aborted idle paused held stopped complete"},
		{"stopping", "stopping"},
		{"stopping", "stopping idle"},
		{"stopping", "stopping stopped holding held paused running"},
		{"stopping", "stopped running"},
		{"stopping", "stopped pausing"},
		{"stopping", "stopped holding"},
		{"stopping", "stopped restarting"},
		{"stopped", "stopped"},
		{"stopped", "stopped idle paused held complete"},
		{"holding", "holding"},
		{"holding", "holding idle complete"},
		{"holding", "holding held restarting pausing paused running"},
		{"holding", "held running"},
		{"holding", "held pausing"},
		{"holding", "held restarting"},
		{"held", "held"},
		{"held", "held idle paused complete"},
		{"restarting", "restarting"},
		{"restarting", "restarting pausing"},
		{"restarting", "restarting paused"},
		{"restarting", "restarting pausing paused running idle complete"},
		{"pausing", "pausing"},
		{"pausing", "pausing idle"},
		{"pausing", "pausing running complete"},
		{"pausing", "paused running"},
		{"pausing", "paused running idle complete"},
		{"paused", "paused"},
		{"paused", "paused complete"},
		{"paused", "paused idle complete"},
		{"running", "running"},
		{"running", "running idle"},
		{"running", "running complete"},
		{"running", "running idle complete"},
		{"complete", "complete"},
		{"complete", "complete complete complete"},
		{"idle", "idle"},
		{"idle", "idle idle"},
		{"running", "complete idle"},
		{"running", "idle complete"},
	} {
		expectRoll(t, state(x.want), states(x.of))
	}
	expectRoll(t, api.Idle, []int{})
}

// P10.4: a number that is not a state counts as Idle, and not as nothing.
func TestRollOfNumbersThatAreNoStates(t *testing.T) {
	for _, n := range numbers() {
		if n >= 0 && n < api.States {
			continue
		}
		expectRoll(t, api.Idle, []int{n})
		expectRoll(t, api.Idle, []int{n, api.Idle, n})
		expectRoll(t, api.Running, []int{n, api.Complete})
		expectRoll(t, api.Running, []int{api.Complete, n, api.Complete})
		for s := api.Running; s < api.Complete; s++ {
			expectRoll(t, s, []int{n, s})
			expectRoll(t, s, []int{s, n})
		}
	}
}

// P10.4: all lists of up to four numbers, and of a number that is not a state.
func TestRollOfAllShortLists(t *testing.T) {
	var grow func(l []int)
	grow = func(l []int) {
		expectRoll(t, referenceRoll(l), l)
		if len(l) == 4 {
			return
		}
		for n := -1; n < api.States; n++ {
			grow(append(l, n))
		}
	}
	grow(nil)
}

// groups is a list of each group of states, which is the index in binary.
func groups() [][]int {
	all := make([][]int, 1<<api.States)
	for i := range all {
		for s := range api.States {
			if i>>s&1 != 0 {
				all[i] = append(all[i], s)
			}
		}
	}
	return all
}

// P10.4: every group of states.
func TestRollOfAllGroups(t *testing.T) {
	for _, l := range groups() {
		expectRoll(t, referenceRoll(l), l)
	}
}

// P10.4, P1: lists of a length that no call of the controller has, with the deciding state at any place.
func TestRollOfLongLists(t *testing.T) {
	const n = 1 << 20
	l := slices.Repeat([]int{api.Complete}, n)
	expectRoll(t, api.Complete, l)
	for _, at := range []int{0, 1, 63, 64, 65, 255, 256, 65535, 65536, n - 1} {
		for s := range api.States {
			l[at] = s
			want := s
			if s == api.Idle {
				want = api.Running
			}
			expectRoll(t, want, l)
		}
		l[at] = math.MinInt
		expectRoll(t, api.Running, l)
		l[at] = api.Complete
	}
}

// R3: the list stays as it is.
func TestRollLeavesItsArgument(t *testing.T) {
	l := append(numbers(), api.Held, api.Running)
	before := slices.Clone(l)
	Roll(l)
	if !slices.Equal(l, before) {
		t.Errorf("the list has become %v", l)
	}
}

// P10.6: neither the order of the states matters, nor how often each one is there.
func TestRollOfOtherOrders(t *testing.T) {
	r := rand.New(rand.NewSource(10))
	for _, l := range groups() {
		var more []int
		for _, s := range l {
			more = append(more, slices.Repeat([]int{s}, 1+r.Intn(4))...)
		}
		r.Shuffle(len(more), func(i, k int) { more[i], more[k] = more[k], more[i] })
		expectRoll(t, Roll(l), more)
	}
}

// P10.6: equal states are this state together, however many they are.
func TestRollOfEqualStates(t *testing.T) {
	for s := range api.States {
		for n := 1; n < 70; n++ {
			expectRoll(t, s, slices.Repeat([]int{s}, n))
		}
	}
}

// P10.6: where one acts, all together act.
func TestRollActs(t *testing.T) {
	for _, l := range groups() {
		if slices.ContainsFunc(l, Acting) && !Acting(Roll(l)) {
			t.Errorf("Roll(%v) = %d, which does not act", l, Roll(l))
		}
	}
}

// P10.6: two lists with the same Roll have it together.
func TestRollOfTwoLists(t *testing.T) {
	all := groups()
	rolls := make([]int, len(all))
	for i, l := range all {
		rolls[i] = Roll(l)
	}
	for i := range all {
		for k := range i {
			if rolls[i] == rolls[k] && rolls[i|k] != rolls[i] {
				t.Fatalf("Roll of %v and of %v is %d, together it is %d", all[i], all[k], rolls[i], rolls[i|k])
			}
		}
	}
	r := rand.New(rand.NewSource(11))
	for range 10000 {
		a, b := all[r.Intn(len(all))], all[r.Intn(len(all))]
		if Roll(a) == Roll(b) {
			expectRoll(t, Roll(a), slices.Concat(a, b))
		}
	}
}

func FuzzRoll(f *testing.F) {
	f.Add([]byte{11, 0})
	f.Add([]byte{5, 1, 255})
	f.Add([]byte{10, 7, 12})
	f.Fuzz(func(t *testing.T, told []byte) {
		var l []int
		for _, b := range told[:min(len(told), 200)] {
			l = append(l, int(int8(b)))
		}
		expectRoll(t, referenceRoll(l), l)
	})
}
