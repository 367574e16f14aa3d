package chart

import (
	"math"
	"slices"
	"strings"
	"testing"

	"malthouse/api"
)

// The names of the states and of the commands, in the order of their numbers.
const (
	stateNames   = "idle running pausing paused holding held restarting stopping stopped aborting aborted complete"
	commandNames = "start pause resume hold restart stop abort reset"
)

// state is the number of a state that is told by its name.
func state(name string) int { return number(stateNames, name) }

func number(names, name string) int {
	n := slices.Index(strings.Fields(names), name)
	if n < 0 {
		panic(name)
	}
	return n
}

// states are the numbers of states that are told by their names, in one text.
func states(text string) []int {
	var l []int
	for _, name := range strings.Fields(text) {
		l = append(l, state(name))
	}
	return l
}

// numbers are all states and commands, and others: those beside them, and those that a shift or a shorter integer could take for one of them.
func numbers() []int {
	var l []int
	for n := -70; n < 140; n++ {
		l = append(l, n)
	}
	for _, base := range []int{256, 1 << 16, 1 << 31, 1 << 32, 1 << 62, -256, -1 << 16, -1 << 31, -1 << 32, math.MinInt} {
		for n := range 16 {
			l = append(l, base+n)
		}
	}
	return append(l, math.MaxInt-1, math.MaxInt)
}

// The table of P10.1, a command in each line.
const commandTable = `
start: idle > running
pause: running > pausing
resume: paused > running
hold: running pausing paused restarting > holding
restart: held > restarting
stop: running pausing paused holding held restarting > stopping
abort: running pausing paused holding held restarting stopping > aborting
reset: stopped aborted complete > idle
`

// step is a state and a command.
type step struct{ state, cmd int }

func permitted() map[step]int {
	all := map[step]int{}
	for line := range strings.Lines(strings.TrimSpace(commandTable)) {
		word, rest, _ := strings.Cut(line, ":")
		from, to, _ := strings.Cut(rest, ">")
		for _, s := range states(from) {
			all[step{s, number(commandNames, word)}] = state(strings.TrimSpace(to))
		}
	}
	return all
}

// P10.1: every command in every state, and numbers that are neither.
func TestNext(t *testing.T) {
	table := permitted()
	if len(table) != 24 {
		t.Fatalf("the table has %d places", len(table))
	}
	for _, s := range numbers() {
		for _, cmd := range numbers() {
			want, there := table[step{s, cmd}]
			if to, ok := Next(s, cmd); to != want || ok != there {
				t.Errorf("Next(%d, %d) = %d %v, not %d %v", s, cmd, to, ok, want, there)
			}
		}
	}
}

// The state that work leads to, and that after a loss of power, where they are others.
const (
	doneTable = "running complete pausing paused holding held restarting running stopping stopped aborting aborted"
	coldTable = "running held pausing held paused held holding held restarting held stopping stopped aborting aborted"
)

// pairs are those of a text in which each name is followed by what it leads to.
func pairs(text string) map[int]int {
	all := map[int]int{}
	for pair := range slices.Chunk(states(text), 2) {
		all[pair[0]] = pair[1]
	}
	return all
}

// P10.2: the end of the work.
func TestDone(t *testing.T) {
	table := pairs(doneTable)
	for _, s := range numbers() {
		want, there := table[s]
		if to, ok := Done(s); to != want || ok != there {
			t.Errorf("Done(%d) = %d %v, not %d %v", s, to, ok, want, there)
		}
	}
}

// P10.2: which states act, and which are quiet.
func TestActingAndQuiet(t *testing.T) {
	acting := states("running pausing holding restarting stopping aborting")
	quiet := states("idle stopped aborted complete")
	for _, s := range numbers() {
		if got := Acting(s); got != slices.Contains(acting, s) {
			t.Errorf("Acting(%d) = %v", s, got)
		}
		if got := Quiet(s); got != slices.Contains(quiet, s) {
			t.Errorf("Quiet(%d) = %v", s, got)
		}
	}
}

// P10.3: a loss of power, also of what is no state.
func TestCold(t *testing.T) {
	table := pairs(coldTable)
	for _, s := range numbers() {
		want, there := table[s]
		if !there {
			want = s
		}
		if to := Cold(s); to != want {
			t.Errorf("Cold(%d) = %d, not %d", s, to, want)
		}
	}
}

// The edges of the chart, those from a state in each line.
const edgeTable = `
idle: running
running: pausing holding stopping aborting complete held
pausing: holding stopping aborting paused held
paused: running holding stopping aborting held
holding: stopping aborting held
held: restarting stopping aborting
restarting: holding stopping aborting running held
stopping: aborting stopped
stopped: idle
aborting: aborted
aborted: idle
complete: idle
`

// P10.3: which states one leads to. None leads to itself, and numbers that are no states have no edges.
func TestEdge(t *testing.T) {
	table := map[[2]int]bool{}
	for line := range strings.Lines(strings.TrimSpace(edgeTable)) {
		from, to, _ := strings.Cut(line, ":")
		for _, s := range states(to) {
			table[[2]int{state(from), s}] = true
		}
	}
	if len(table) != 34 {
		t.Fatalf("the table has %d edges", len(table))
	}
	for _, from := range numbers() {
		for _, to := range numbers() {
			if got := Edge(from, to); got != table[[2]int{from, to}] {
				t.Errorf("Edge(%d, %d) = %v", from, to, got)
			}
		}
	}
}

// P10.3: the edges are those that Next, Done and Cold have, and no others.
func TestEdgesAreThoseOfTheOtherCalls(t *testing.T) {
	for from := range api.States {
		leads := map[int]bool{Cold(from): true}
		if to, ok := Done(from); ok {
			leads[to] = true
		}
		for cmd := range api.Commands {
			if to, ok := Next(from, cmd); ok {
				leads[to] = true
			}
		}
		delete(leads, from)
		for to := range api.States {
			if got := Edge(from, to); got != leads[to] {
				t.Errorf("Edge(%d, %d) = %v", from, to, got)
			}
		}
	}
}

// P10.5: the priority of commands, whichever comes first, beside numbers that are none.
func TestStronger(t *testing.T) {
	rank := strings.Fields("abort stop hold pause restart resume start reset")
	at := map[int]int{} // the number of a command: its rank
	for i, word := range rank {
		at[number(commandNames, word)] = i
	}
	for _, a := range numbers() {
		for _, b := range numbers() {
			i, first := at[a]
			k, second := at[b]
			want := -1
			switch {
			case first && (!second || i < k):
				want = a
			case second:
				want = b
			}
			if got := Stronger(a, b); got != want {
				t.Errorf("Stronger(%d, %d) = %d, not %d", a, b, got, want)
			}
		}
	}
}

// P10.5: names of numbers that exist, and no others.
func TestNames(t *testing.T) {
	for _, n := range numbers() {
		for _, x := range []struct {
			call, names, got string
		}{{"Name", stateNames, Name(n)}, {"Word", commandNames, Word(n)}} {
			want := ""
			if l := strings.Fields(x.names); n >= 0 && n < len(l) {
				want = l[n]
			}
			if x.got != want {
				t.Errorf("%s(%d) = %q, not %q", x.call, n, x.got, want)
			}
		}
	}
}

// The numbers that the chapter names are those of api.
func TestNumbers(t *testing.T) {
	inOrder := []int{api.Idle, api.Running, api.Pausing, api.Paused, api.Holding, api.Held, api.Restarting, api.Stopping, api.Stopped, api.Aborting, api.Aborted, api.Complete, api.States}
	for i, n := range inOrder {
		if n != i {
			t.Errorf("state %d is %d", i, n)
		}
	}
	inOrder = []int{api.Start, api.Pause, api.Resume, api.Hold, api.Restart, api.Stop, api.Abort, api.Reset, api.Commands}
	for i, n := range inOrder {
		if n != i {
			t.Errorf("command %d is %d", i, n)
		}
	}
}

// P10.6: Abort leads to Aborted from every state that is not quiet.
func TestAbortLeadsToAborted(t *testing.T) {
	for s := range api.States {
		if Quiet(s) {
			continue
		}
		at := s
		if s != api.Aborting {
			to, ok := Next(s, api.Abort)
			if !ok {
				t.Errorf("state %d cannot be aborted", s)
			}
			at = to
		}
		if to, ok := Done(at); !ok || to != api.Aborted {
			t.Errorf("from state %d, Abort leads to %d %v", s, to, ok)
		}
	}
}

// P10.6: a second loss of power changes nothing, and nothing acts behind the first one.
func TestColdTwice(t *testing.T) {
	for _, s := range numbers() {
		to := Cold(s)
		if Cold(to) != to || Acting(to) {
			t.Errorf("Cold(%d) = %d, then %d; acting: %v", s, to, Cold(to), Acting(to))
		}
	}
}
