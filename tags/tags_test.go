package tags

import (
	"fmt"
	"math"
	"reflect"
	"slices"
	"strings"
	"testing"

	"malthouse/api"
)

func input(name string, lo, hi int) api.Tag { return api.Tag{Name: name, Lo: lo, Hi: hi} }

func output(name string, lo, hi int) api.Tag { return api.Tag{Name: name, Out: true, Lo: lo, Hi: hi} }

func cell(name string, n int) api.Cell { return api.Cell{Name: name, N: n} }

// many are so many inputs with different names.
func many(n int) []api.Tag {
	l := make([]api.Tag, n)
	for i := range l {
		l[i] = input(fmt.Sprint("t", i), 0, 9)
	}
	return l
}

// plain is a table with tags of both kinds, and image an image for it in which everything differs from New.
func plain() []api.Tag {
	return []api.Tag{input("t", 0, 100), output("v", 1, 5), input("u", -7, -3), output("w", -50, 50)}
}

func image() api.Image {
	return api.Image{V: []int{44, 4, -5, -40}, Bad: []bool{false, false, true, false}}
}

// told is an image in one text, which does not tell nil lists from empty ones.
func told(im api.Image) string { return fmt.Sprint(im.V, im.Bad) }

func expectCheck(t *testing.T, want api.Errno, l ...api.Tag) {
	t.Helper()
	if e := Check(l); e != want {
		t.Errorf("Check(%v): error %d, not %d", l, e, want)
	}
}

func expectFind(t *testing.T, l []api.Tag, name string, want int) {
	t.Helper()
	if got := Find(l, name); got != want {
		t.Errorf("Find(%v, %q) = %d, not %d", l, name, got, want)
	}
}

// expectImage is that a call returned an image with these lists.
func expectImage(t *testing.T, im api.Image, e api.Errno, v []int, bad []bool) {
	t.Helper()
	if want := told(api.Image{V: v, Bad: bad}); e != api.OK || told(im) != want {
		t.Errorf("%s, error %d, not %s", told(im), e, want)
	}
}

func expectNoImage(t *testing.T, im api.Image, e, want api.Errno) {
	t.Helper()
	if len(im.V) != 0 || len(im.Bad) != 0 || e != want {
		t.Errorf("%s, error %d, not %d", told(im), e, want)
	}
}

// The table of the chapter.
func TestExamples(t *testing.T) {
	l := []api.Tag{input("t", 0, 100), output("v", 1, 5)}
	first, e := New(l)
	expectImage(t, first, e, []int{0, 1}, []bool{false, false})
	im, e := Latch(l, first, []api.Cell{cell("t", 120)})
	expectImage(t, im, e, []int{100, 1}, []bool{true, false})
	im, e = Latch(l, first, []api.Cell{cell("t", 120), cell("t", 50)})
	expectImage(t, im, e, []int{50, 1}, []bool{false, false})
	im, e = Drive(l, first, []api.Cell{cell("v", 9)})
	expectImage(t, im, e, []int{0, 5}, []bool{false, false})
	im, e = Drive(l, first, []api.Cell{cell("v", 0)})
	expectImage(t, im, e, []int{0, 1}, []bool{false, false})
	im, e = Latch(l, first, []api.Cell{cell("v", 2)})
	expectNoImage(t, im, e, api.ErrName)
	im, e = Drive(l, first, []api.Cell{cell("t", 2)})
	expectNoImage(t, im, e, api.ErrName)
	expectCheck(t, api.ErrThere, l[0], l[0])
	expectCheck(t, api.ErrArg, input("t", 2, 1))
}

// P8.1: tables of every length, and of bounds that are as near, and as far, as they may be.
func TestCheckAccepts(t *testing.T) {
	for n := range 13 {
		expectCheck(t, api.OK, many(n)...)
	}
	for _, name := range []string{"a", "_", "é", "X9_", "abcdefghijkl", "ɏɏɏɏɏɏɏɏɏɏɏɏ", "plant"} {
		expectCheck(t, api.OK, input(name, 0, 1), output("z", 0, 1))
	}
	for _, x := range [][2]int{{0, 0}, {-1, 0}, {0, 1}, {5, 5}, {-5, -5}, {math.MinInt, math.MaxInt}, {math.MinInt, math.MinInt}, {math.MaxInt, math.MaxInt}} {
		expectCheck(t, api.OK, input("a", x[0], x[1]), output("b", x[0], x[1]))
	}
	expectCheck(t, api.OK, plain()...)
	expectCheck(t, api.OK, input("t", 0, 1), input("T", 0, 1), input("t1", 0, 1), input("tt", 0, 1))
}

// P8.1: a wrong tag is found wherever it stands.
func TestCheckRefuses(t *testing.T) {
	type wrong struct {
		tag  api.Tag
		want api.Errno
	}
	var all []wrong
	for _, name := range []string{"", "1", "1a", "a b", "a-b", " a", "abcdefghijklm", "ɏɏɏɏɏɏɏɏɏɏɏɏɏ", "\xff", "a\xff", "×"} {
		all = append(all, wrong{input(name, 0, 1), api.ErrArg}, wrong{output(name, 0, 1), api.ErrArg})
	}
	for _, x := range [][2]int{{1, 0}, {0, -1}, {2, 1}, {-4, -5}, {math.MaxInt, math.MinInt}, {math.MaxInt, math.MaxInt - 1}, {math.MinInt + 1, math.MinInt}} {
		all = append(all, wrong{input("a", x[0], x[1]), api.ErrArg}, wrong{output("a", x[0], x[1]), api.ErrArg})
	}
	for _, x := range all {
		for at := range 12 {
			expectCheck(t, x.want, slices.Insert(many(11), at, x.tag)...)
		}
	}
}

// P8.1: the later one of two tags with one name is wrong, whatever else they have.
func TestCheckFindsNamesTwice(t *testing.T) {
	for i := range 12 {
		for k := range i {
			l := many(12)
			l[i].Name = l[k].Name
			expectCheck(t, api.ErrThere, l...)
			expectCheck(t, api.OK, slices.Delete(slices.Clone(l), i, i+1)...)
			expectCheck(t, api.OK, slices.Delete(slices.Clone(l), k, k+1)...)
			l[i] = output(l[k].Name, -3, 3)
			expectCheck(t, api.ErrThere, l...)
		}
	}
}

// P8.1: ErrLong comes first, then the tags one by one, and of one tag ErrArg.
func TestWhichErrorOfCheckComesFirst(t *testing.T) {
	a, bad := input("a", 0, 1), input("b", 1, 0)
	expectCheck(t, api.ErrLong, many(13)...)
	expectCheck(t, api.ErrLong, many(1000)...)
	expectCheck(t, api.ErrLong, make([]api.Tag, 13)...)
	expectCheck(t, api.ErrLong, append(many(12), a, a)...)
	expectCheck(t, api.ErrLong, slices.Insert(many(12), 0, bad)...)
	expectCheck(t, api.ErrArg, make([]api.Tag, 12)...)
	expectCheck(t, api.ErrArg, a, bad, a)
	expectCheck(t, api.ErrThere, a, a, bad)
	expectCheck(t, api.ErrArg, a, input("a", 1, 0))
	expectCheck(t, api.ErrArg, a, output("a", 0, -1), a)
	expectCheck(t, api.ErrArg, input("", 0, 1), input("", 0, 1))
}

// P8.1: Find does not ask whether a table is valid.
func TestFind(t *testing.T) {
	for i, name := range []string{"t", "v", "u", "w"} {
		expectFind(t, plain(), name, i)
	}
	for _, name := range []string{"", "T", "tt", "x", " t", "t ", "\xff", strings.Repeat("t", 100000)} {
		expectFind(t, plain(), name, -1)
		expectFind(t, nil, name, -1)
		expectFind(t, []api.Tag{}, name, -1)
	}
	for i := range 30 {
		expectFind(t, many(30), fmt.Sprint("t", i), i)
	}
	twice := []api.Tag{input("a", 0, 1), input("", 2, 1), output("b", 1, 0), input("b", 0, 1), output("a", 0, 1), input("1", 0, 1), input("", 0, 1), input("\xff", 0, 1)}
	for name, want := range map[string]int{"a": 0, "": 1, "b": 2, "1": 5, "\xff": 7} {
		expectFind(t, twice, name, want)
	}
}

// P8.2: 0 where it is within the bounds, and otherwise the bound that is next to it.
func TestNew(t *testing.T) {
	for _, x := range []struct{ lo, hi, want int }{{0, 0, 0}, {-1, 1, 0}, {0, 5, 0}, {-5, 0, 0}, {1, 5, 1}, {3, 3, 3}, {-5, -1, -1}, {-3, -3, -3},
		{math.MinInt, math.MaxInt, 0}, {math.MinInt, -9, -9}, {9, math.MaxInt, 9}, {math.MaxInt, math.MaxInt, math.MaxInt}, {math.MinInt, math.MinInt, math.MinInt}} {
		im, e := New([]api.Tag{input("a", x.lo, x.hi), output("b", x.lo, x.hi)})
		expectImage(t, im, e, []int{x.want, x.want}, []bool{false, false})
	}
	im, e := New(plain())
	expectImage(t, im, e, []int{0, 1, -3, 0}, []bool{false, false, false, false})
	for n := range 13 {
		im, e := New(many(n))
		expectImage(t, im, e, make([]int, n), make([]bool, n))
		if !Right(many(n), im) {
			t.Errorf("the first image of %d tags is not right", n)
		}
	}
}

// wrongTables are some with each error of Check.
func wrongTables() map[api.Errno][]api.Tag {
	return map[api.Errno][]api.Tag{
		api.ErrLong:  many(13),
		api.ErrArg:   {input("t", 0, 100), output("v", 5, 1)},
		api.ErrThere: {input("t", 0, 100), output("t", 1, 5)},
	}
}

func TestNewFails(t *testing.T) {
	for want, l := range wrongTables() {
		im, e := New(l)
		expectNoImage(t, im, e, want)
	}
	im, e := New(append(make([]api.Tag, 12), plain()...))
	expectNoImage(t, im, e, api.ErrLong)
}

// wrongImages are some for plain() that are not right, each for one reason.
func wrongImages() map[string]api.Image {
	all := map[string]api.Image{"nothing": {}, "no V": {Bad: image().Bad}, "no Bad": {V: image().V}}
	add := func(name string, change func(im *api.Image)) {
		im := image()
		change(&im)
		all[name] = im
	}
	add("V is short", func(im *api.Image) { im.V = im.V[:3] })
	add("V is long", func(im *api.Image) { im.V = append(im.V, 0) })
	add("Bad is short", func(im *api.Image) { im.Bad = im.Bad[:3] })
	add("Bad is long", func(im *api.Image) { im.Bad = append(im.Bad, false) })
	add("both are short", func(im *api.Image) { im.V, im.Bad = im.V[:3], im.Bad[:3] })
	add("both are long", func(im *api.Image) { im.V, im.Bad = append(im.V, 0), append(im.Bad, false) })
	for i, x := range plain() {
		for _, n := range []int{x.Lo - 1, x.Hi + 1, math.MinInt, math.MaxInt} {
			add(fmt.Sprint(x.Name, " is ", n), func(im *api.Image) { im.V[i] = n })
		}
		if x.Out {
			add(x.Name+" is Bad", func(im *api.Image) { im.Bad[i] = true })
		}
	}
	return all
}

// P8.2: every condition of Right by itself.
func TestRight(t *testing.T) {
	if !Right(plain(), image()) || !Right(nil, api.Image{}) || !Right([]api.Tag{}, api.Image{V: []int{}, Bad: []bool{}}) {
		t.Errorf("an image is not right")
	}
	for i, x := range plain() {
		for _, n := range []int{x.Lo, x.Hi, x.Lo + 1, x.Hi - 1} {
			im := image()
			im.V[i] = n
			im.Bad[i] = !x.Out
			if !Right(plain(), im) {
				t.Errorf("%s is not right", told(im))
			}
		}
	}
	for name, im := range wrongImages() {
		if Right(plain(), im) {
			t.Errorf("%s: %s is right", name, told(im))
		}
	}
	for e, l := range wrongTables() {
		if Right(l, api.Image{V: []int{1, 1}, Bad: []bool{false, false}}) || Right(l, api.Image{V: make([]int, len(l)), Bad: make([]bool, len(l))}) {
			t.Errorf("an image of a table with error %d is right", e)
		}
	}
}

// P8.2: a Bad input need not have a value at its bounds.
func TestRightOfBadInputs(t *testing.T) {
	l := []api.Tag{input("a", 0, 9), input("b", 0, 9)}
	for n := range 10 {
		for _, bad := range []bool{false, true} {
			if !Right(l, api.Image{V: []int{n, 9 - n}, Bad: []bool{bad, !bad}}) {
				t.Errorf("%d, %t is not right", n, bad)
			}
		}
	}
}

// around are values at the bounds of a tag, beside them, and far away.
func around(x api.Tag) []int {
	return []int{x.Lo, x.Lo - 1, x.Lo + 1, x.Hi, x.Hi - 1, x.Hi + 1, 0, math.MinInt, math.MaxInt}
}

// P8.3: one value for each tag, from within its bounds and from outside; no other tag changes.
func TestOneValue(t *testing.T) {
	for i, x := range plain() {
		for _, n := range around(x) {
			v, bad := image().V, image().Bad
			v[i] = n
			if n < x.Lo {
				v[i] = x.Lo
			}
			if n > x.Hi {
				v[i] = x.Hi
			}
			bad[i] = !x.Out && v[i] != n
			change, other := Latch, Drive
			if x.Out {
				change, other = Drive, Latch
			}
			im, e := change(plain(), image(), []api.Cell{cell(x.Name, n)})
			expectImage(t, im, e, v, bad)
			im, e = other(plain(), image(), []api.Cell{cell(x.Name, n)})
			expectNoImage(t, im, e, api.ErrName)
		}
	}
}

// P8.3: bounds at the ends of the range.
func TestValuesAtTheEndsOfTheRange(t *testing.T) {
	l := []api.Tag{input("all", math.MinInt, math.MaxInt), input("low", math.MinInt, math.MinInt), input("high", math.MaxInt, math.MaxInt)}
	first, e := New(l)
	expectImage(t, first, e, []int{0, math.MinInt, math.MaxInt}, []bool{false, false, false})
	im, e := Latch(l, first, []api.Cell{cell("all", math.MinInt), cell("low", math.MaxInt), cell("high", math.MinInt)})
	expectImage(t, im, e, []int{math.MinInt, math.MinInt, math.MaxInt}, []bool{false, true, true})
	im, e = Latch(l, im, []api.Cell{cell("all", math.MaxInt), cell("low", math.MinInt), cell("high", math.MaxInt)})
	expectImage(t, im, e, []int{math.MaxInt, math.MinInt, math.MaxInt}, []bool{false, false, false})
}

// P8.3: the elements are processed in order, so that the last value for a tag counts, and so does whether that one is Bad.
func TestSeveralValues(t *testing.T) {
	im, e := Latch(plain(), image(), []api.Cell{cell("u", -5), cell("t", 101), cell("t", -1), cell("u", 0)})
	expectImage(t, im, e, []int{0, 4, -3, -40}, []bool{true, false, true, false})
	im, e = Latch(plain(), im, []api.Cell{cell("t", 500), cell("u", -8), cell("t", 100), cell("u", -7)})
	expectImage(t, im, e, []int{100, 4, -7, -40}, []bool{false, false, false, false})
	im, e = Drive(plain(), image(), []api.Cell{cell("w", 60), cell("v", 0), cell("w", -60), cell("v", 2)})
	expectImage(t, im, e, []int{44, 2, -5, -50}, []bool{false, false, true, false})
	var all []api.Cell
	for n := range 10000 {
		all = append(all, cell("t", n))
	}
	im, e = Latch(plain(), image(), all)
	expectImage(t, im, e, []int{100, 4, -5, -40}, []bool{true, false, true, false})
}

// P8.3: no elements leave the image as it is, Bad inputs included.
func TestNoValues(t *testing.T) {
	for _, cells := range [][]api.Cell{nil, {}} {
		im, e := Latch(plain(), image(), cells)
		expectImage(t, im, e, image().V, image().Bad)
		im, e = Drive(plain(), image(), cells)
		expectImage(t, im, e, image().V, image().Bad)
		im, e = Latch(nil, api.Image{}, cells)
		expectImage(t, im, e, nil, nil)
		im, e = Drive(nil, api.Image{}, cells)
		expectImage(t, im, e, nil, nil)
	}
}

// P8.3: an unknown name among known ones yields no image, wherever it stands.
func TestUnknownNames(t *testing.T) {
	good := map[bool][]api.Cell{false: {cell("t", 3), cell("u", -4)}, true: {cell("v", 3), cell("w", -4)}}
	for out, cells := range good {
		change := Latch
		if out {
			change = Drive
		}
		for _, name := range []string{"", "T", "x", "tt", "V", "w ", "\xff", good[!out][0].Name, good[!out][1].Name} {
			for at := range 3 {
				im, e := change(plain(), image(), slices.Insert(slices.Clone(cells), at, cell(name, 2)))
				expectNoImage(t, im, e, api.ErrName)
			}
		}
		im, e := change(nil, api.Image{}, cells)
		expectNoImage(t, im, e, api.ErrName)
	}
}

// P8.3 and P8.4: an image that is not right is refused ahead of names that nothing has.
func TestWrongImages(t *testing.T) {
	expectRefused := func(l []api.Tag, im api.Image) {
		t.Helper()
		for _, cells := range [][]api.Cell{nil, {cell("t", 1)}, {cell("v", 1)}, {cell("x", 1)}} {
			got, e := Latch(l, im, cells)
			expectNoImage(t, got, e, api.ErrArg)
			got, e = Drive(l, im, cells)
			expectNoImage(t, got, e, api.ErrArg)
		}
		if c := Env(l, im); len(c) != 0 {
			t.Errorf("Env(%v, %s) = %v", l, told(im), c)
		}
	}
	for _, im := range wrongImages() {
		expectRefused(plain(), im)
	}
	for _, l := range wrongTables() {
		expectRefused(l, image())
		expectRefused(l, api.Image{V: []int{1, 1}, Bad: []bool{false, false}})
		expectRefused(l, api.Image{V: make([]int, len(l)), Bad: make([]bool, len(l))})
	}
	expectRefused(nil, image())
}

func TestEnv(t *testing.T) {
	want := []api.Cell{cell("t", 44), cell("v", 4), cell("u", -5), cell("w", -40)}
	if c := Env(plain(), image()); !slices.Equal(c, want) {
		t.Errorf("Env = %v, not %v", c, want)
	}
	if c := Env(nil, api.Image{}); len(c) != 0 {
		t.Errorf("Env of nothing = %v", c)
	}
	for n := range 13 {
		l := many(n)
		im, _ := New(l)
		var samples []api.Cell
		for i := range l {
			samples = append(samples, cell(l[i].Name, i%10))
		}
		im, e := Latch(l, im, samples)
		if c := Env(l, im); e != api.OK || !slices.Equal(c, samples) {
			t.Errorf("Env = %v, not %v", c, samples)
		}
	}
}

// R3: no call changes what it is given, and what it returns may be changed.
func TestNothingIsShared(t *testing.T) {
	l, im, cells := plain(), image(), []api.Cell{cell("t", 500), cell("u", 500)}
	sets := []api.Cell{cell("v", 500), cell("w", 500)}
	expectSame := func() {
		t.Helper()
		if !slices.Equal(l, plain()) || !reflect.DeepEqual(im, image()) || !slices.Equal(cells, []api.Cell{cell("t", 500), cell("u", 500)}) || !slices.Equal(sets, []api.Cell{cell("v", 500), cell("w", 500)}) {
			t.Fatalf("an argument is changed: %v, %s, %v, %v", l, told(im), cells, sets)
		}
	}
	for _, call := range []func() api.Image{
		func() api.Image { x, _ := New(l); return x },
		func() api.Image { x, _ := Latch(l, im, cells); return x },
		func() api.Image { x, _ := Drive(l, im, sets); return x },
		func() api.Image { x, _ := Latch(l, im, nil); return x },
		func() api.Image { x, _ := Drive(l, im, nil); return x },
	} {
		got := call()
		expectSame()
		before := told(got)
		for i := range got.V {
			got.V[i], got.Bad[i] = 77, !got.Bad[i]
		}
		_, _ = append(got.V, 1), append(got.Bad, true)
		expectSame()
		if again := told(call()); again != before {
			t.Errorf("a result is kept: %s, and then %s", before, again)
		}
	}
	Check(l)
	Find(l, "w")
	Right(l, im)
	c := Env(l, im)
	c[0], c[3] = cell("x", 1), cell("y", 2)
	expectSame()
	if c := Env(l, im); c[0] != cell("t", 44) || c[3] != cell("w", -40) {
		t.Errorf("Env = %v", c)
	}
	got, _ := Latch(l, im, cells)
	want := told(got)
	l[0], im.V[1], im.Bad[2], cells[0] = input("z", 0, 1), 1, false, cell("u", -4)
	if told(got) != want {
		t.Errorf("the image has changed with its arguments: %s", told(got))
	}
}
