package tags

import (
	"fmt"
	"math"
	"math/rand"
	"slices"
	"testing"

	"malthouse/api"
	"malthouse/lex"
)

// The chapter once more, from its definitions: tags by their names, and for each one the last value that was reported for it.

func referenceCheck(l []api.Tag) api.Errno {
	if len(l) > 12 {
		return 2
	}
	seen := map[string]bool{}
	for _, t := range l {
		if !lex.Name(t.Name) || t.Hi < t.Lo {
			return 1
		}
		if seen[t.Name] {
			return 5
		}
		seen[t.Name] = true
	}
	return 0
}

// reference holds, in place of an image, what was reported last; nothing at first.
type reference struct {
	tags []api.Tag
	last map[string]int
}

// nearest is n, or the bound that it is beyond.
func nearest(t api.Tag, n int) int {
	l := []int{t.Lo, n, t.Hi}
	slices.Sort(l)
	return l[1]
}

// image is what the reference has. The 0 of a tag for which nothing was reported is not Bad, wherever its bounds are.
func (r *reference) image() (im api.Image) {
	for _, t := range r.tags {
		n, reported := r.last[t.Name]
		im.V = append(im.V, nearest(t, n))
		im.Bad = append(im.Bad, reported && !t.Out && (n < t.Lo || n > t.Hi))
	}
	return im
}

// take reports cells, all of them or none.
func (r *reference) take(cells []api.Cell, out bool) api.Errno {
	for _, c := range cells {
		if !slices.ContainsFunc(r.tags, func(t api.Tag) bool { return t.Name == c.Name && t.Out == out }) {
			return 21
		}
	}
	for _, c := range cells {
		r.last[c.Name] = c.N
	}
	return 0
}

// bounds are numbers of which some are next to each other, and some at the ends.
var bounds = []int{math.MinInt, math.MinInt + 1, -100, -2, -1, 0, 1, 2, 3, 100, math.MaxInt - 1, math.MaxInt}

// tableOf is a table told by bytes, three for each tag. Most are valid.
func tableOf(told []byte) []api.Tag {
	var l []api.Tag
	for i := 0; i+2 < len(told); i += 3 {
		lo, hi := bounds[int(told[i+1])%len(bounds)], bounds[int(told[i+2])%len(bounds)]
		t := api.Tag{Name: nameOf(told[i]), Out: told[i]&16 != 0, Lo: lo, Hi: hi}
		if told[i+1] < 240 {
			t.Lo, t.Hi = min(lo, hi), max(lo, hi)
		}
		if told[i] < 240 && Find(l, t.Name) >= 0 {
			continue
		}
		l = append(l, t)
	}
	return l
}

// nameOf is one of 16 names, of which one is none.
func nameOf(x byte) string {
	if x == 255 {
		return ""
	}
	return "abcdefghijklmnop"[x%16:][:1]
}

// cellsOf is a list told by bytes, two for each cell. Most are for tags of the kind that is asked for.
func cellsOf(told []byte, l []api.Tag, out bool) []api.Cell {
	var cells []api.Cell
	for i := 0; i+1 < len(told); i += 2 {
		c := api.Cell{Name: nameOf(told[i]), N: bounds[int(told[i+1])%len(bounds)]}
		if told[i+1]&1 != 0 && c.N > math.MinInt {
			c.N--
		}
		if at := Find(l, c.Name); told[i] < 250 && (at < 0 || l[at].Out != out) {
			continue
		}
		cells = append(cells, c)
	}
	return cells
}

// met counts what the calls have come to, so that a test can tell whether they came where it matters.
type met map[string]int

// script is a table and calls on it. The first byte tells how many tags there are; of each call the first one tells its kind and how many elements there are.
func (m met) script(t *testing.T, told []byte) {
	if len(told) == 0 || len(told) > 3000 {
		return
	}
	n := min(3*(int(told[0])%20), len(told)-1)
	r := &reference{tags: tableOf(told[1 : 1+n]), last: map[string]int{}}
	im, e := New(r.tags)
	want := referenceCheck(r.tags)
	m[fmt.Sprint("New ", want)]++
	if e != want || Check(r.tags) != want {
		t.Fatalf("New(%v): error %d, Check: error %d, not %d", r.tags, e, Check(r.tags), want)
	}
	if want != 0 {
		m.wrong(t, r.tags, im)
		return
	}
	m.same(t, r, im)
	for rest := told[1+n:]; len(rest) > 0; {
		n, out := min(int(rest[0])%16, len(rest)-1), rest[0]&16 != 0
		change, name := Latch, "Latch "
		if out {
			change, name = Drive, "Drive "
		}
		cells := cellsOf(rest[1:1+n], r.tags, out)
		rest = rest[1+n:]
		got, e := change(r.tags, im, cells)
		want := r.take(cells, out)
		m[fmt.Sprint(name, want)]++
		if e != want {
			t.Fatalf("%s%v: error %d, not %d", name, cells, e, want)
		}
		if e != 0 {
			expectNoImage(t, got, e, want)
			continue
		}
		im = got
		m.same(t, r, im)
	}
}

// wrong is that a table with an error has no image.
func (m met) wrong(t *testing.T, l []api.Tag, im api.Image) {
	t.Helper()
	if len(im.V) != 0 || len(im.Bad) != 0 {
		t.Fatalf("New(%v) = %s", l, told(im))
	}
	zeros := api.Image{V: make([]int, len(l)), Bad: make([]bool, len(l))}
	if Right(l, zeros) || len(Env(l, zeros)) != 0 {
		t.Fatalf("%v has an image", l)
	}
}

// same holds an image against the reference.
func (m met) same(t *testing.T, r *reference, im api.Image) {
	t.Helper()
	want := r.image()
	if told(im) != told(want) || !Right(r.tags, im) {
		t.Fatalf("%v: %s, not %s; right: %t", r.tags, told(im), told(want), Right(r.tags, im))
	}
	env := Env(r.tags, im)
	if len(env) != len(r.tags) {
		t.Fatalf("Env = %v", env)
	}
	for i, x := range r.tags {
		if im.V[i] < x.Lo || im.V[i] > x.Hi || env[i] != (api.Cell{Name: x.Name, N: want.V[i]}) {
			t.Fatalf("%v has %d, and %v in Env", x, im.V[i], env[i])
		}
		if im.Bad[i] {
			m["Bad"]++
		}
	}
}

// P8.5: after any calls, each value is the last one that was reported, within the bounds, and nothing else has changed.
func TestRandomCalls(t *testing.T) {
	random := rand.New(rand.NewSource(8))
	m := met{}
	for range 20000 {
		calls := make([]byte, 1+random.Intn(300))
		random.Read(calls)
		m.script(t, calls)
	}
	for _, x := range []string{"New 0", "New 1", "New 2", "New 5", "Latch 0", "Latch 21", "Drive 0", "Drive 21", "Bad"} {
		if m[x] < 100 {
			t.Errorf("%s: %d times", x, m[x])
		}
	}
}

func FuzzCalls(f *testing.F) {
	f.Add([]byte{3, 1, 5, 9, 18, 6, 8, 3, 5, 5, 4, 1, 11, 3, 2, 18, 18, 10, 2, 1, 5})
	f.Add([]byte{2, 1, 5, 9, 255, 6, 8})
	f.Fuzz(func(t *testing.T, told []byte) { met{}.script(t, told) })
}
