package pack

import (
	"bytes"
	"math"
	"math/rand"
	"slices"
	"strings"
	"testing"

	"malthouse/api"
)

// reads are the calls that advance a Reader, with a limit that some of them take, and what they answered as a value to compare.
func reads() []func(r reading, most int) any {
	return []func(r reading, most int) any{
		func(r reading, most int) any { return r.Int() },
		func(r reading, most int) any { return r.Bool() },
		func(r reading, most int) any { return r.Text(most) },
		func(r reading, most int) any { return r.Count(most) },
	}
}

type reading interface {
	Int() int
	Bool() bool
	Text(most int) string
	Count(most int) int
	Left() int
	Err() api.Errno
}

func nought(v any) bool { return v == 0 || v == false || v == "" }

func expectAt(t *testing.T, what any, r *Reader, left int, e api.Errno) {
	t.Helper()
	if r.Left() != left || r.Err() != e {
		t.Errorf("%v: %d left and error %d, not %d and %d", what, r.Left(), r.Err(), left, e)
	}
}

// expectFailed holds a Reader, whose last call is to have failed, against all that P3.3 says of it.
func expectFailed(t *testing.T, what any, got any, r *Reader, left int) {
	t.Helper()
	if !nought(got) {
		t.Errorf("%v answered %v", what, got)
	}
	expectAt(t, what, r, left, api.ErrForm)
	for i, read := range reads() {
		if v := read(r, math.MaxInt); !nought(v) {
			t.Errorf("%v: call %d answered %v afterwards", what, i, v)
		}
		expectAt(t, what, r, left, api.ErrForm)
	}
}

func TestTheExamplesOfReading(t *testing.T) {
	r := Read([]byte{0, 1, 126, 127, 128, 1, 129, 1, 4, 195, 169, 1, 255, 255, 255, 255, 255, 255, 255, 255, 255, 1})
	for _, n := range []int{0, -1, 63, -64, 64, -65} {
		if got := r.Int(); got != n {
			t.Errorf("Int() = %d, not %d", got, n)
		}
	}
	if s := r.Text(2); s != "é" {
		t.Errorf("Text(2) = %q", s)
	}
	if !r.Bool() {
		t.Error("Bool() = false")
	}
	if n := r.Int(); n != -1<<63 {
		t.Errorf("Int() = %d", n)
	}
	expectAt(t, "the examples", r, 0, api.OK)

	r = Read([]byte{128, 0})
	expectFailed(t, "128 0", r.Int(), r, 2)
}

func TestANewReader(t *testing.T) {
	for _, b := range [][]byte{nil, {}, {128}, {1, 2, 3}, {255, 255}} {
		expectAt(t, b, Read(b), len(b), api.OK)
	}
}

func TestReadingIntegers(t *testing.T) {
	random := rand.New(rand.NewSource(5))
	l := edges()
	for range 20000 {
		l = append(l, someInt(random))
	}
	for _, n := range l {
		b := referenceInt(n)
		r := Read(append(b, 200, 7))
		if got := r.Int(); got != n {
			t.Errorf("Int() = %d, not %d", got, n)
		}
		expectAt(t, n, r, 2, api.OK)
		if n < 0 {
			r = Read(b)
			expectFailed(t, n, r.Count(math.MaxInt), r, len(b))
			continue
		}
		r = Read(append(b, 200, 7))
		if got := r.Count(n); got != n {
			t.Errorf("Count(%d) = %d", n, got)
		}
		expectAt(t, n, r, 2, api.OK)
		r = Read(b)
		expectFailed(t, n, r.Count(n-1), r, len(b))
	}
}

func TestIntegersThatAreNone(t *testing.T) {
	nine := bytes.Repeat([]byte{255}, 9)
	for _, b := range [][]byte{
		{}, {128}, {255}, {128, 128}, {129, 255, 128}, nine, // they end too early
		{128, 0}, {129, 0}, {255, 0}, {128, 128, 0}, {129, 128, 0}, {255, 255, 128, 0}, append(nine[:9:9], 0), {128, 128, 128, 128, 128, 128, 128, 128, 128, 0}, // more bytes than necessary
		append(nine[:9:9], 2), append(nine[:9:9], 3), append(nine[:9:9], 127), {128, 128, 128, 128, 128, 128, 128, 128, 128, 2}, {128, 128, 128, 128, 128, 128, 128, 128, 128, 64}, // outside
		append(nine[:9:9], 129, 0), append(nine[:9:9], 128, 1), append(nine[:9:9], 255, 1), append(nine[:9:9], 129), append(nine[:9:9], 128), bytes.Repeat([]byte{128}, 10), bytes.Repeat([]byte{128}, 11), bytes.Repeat([]byte{255}, 300),
		append(bytes.Repeat([]byte{128}, 10), 1), append(bytes.Repeat([]byte{128}, 18), 2), append(bytes.Repeat([]byte{128}, 63), 1),
	} {
		for _, behind := range [][]byte{nil, {0}, {1, 1}} {
			if len(behind) > 0 && (len(b) == 0 || b[len(b)-1] >= 128) && len(b) < 10 {
				continue // what follows would end the integer
			}
			all := slices.Concat(b, behind)
			r := Read(all)
			expectFailed(t, all, r.Int(), r, len(all))
			r = Read(all)
			expectFailed(t, all, r.Count(math.MaxInt), r, len(all))
			r = Read(all)
			expectFailed(t, all, r.Text(math.MaxInt), r, len(all))
		}
	}
}

// Two bytes begin with an integer if, and only if, a Writer would write it so.
func TestAllPairsOfBytes(t *testing.T) {
	known := map[string]int{}
	for n := -8192; n < 8192; n++ {
		known[string(written(func(w *Writer) { w.Int(n) }))] = n
	}
	if len(known) != 16384 {
		t.Errorf("%d encodings of 16384 integers", len(known))
	}
	for x := range 256 {
		for y := range 256 {
			b := []byte{byte(x), byte(y)}
			want, one := known[string(b[:1])]
			two := false
			if !one {
				want, two = known[string(b)]
			}
			r := Read(b)
			n := r.Int()
			switch {
			case n != want:
				t.Errorf("%v: Int() = %d, not %d", b, n, want)
			case one:
				expectAt(t, b, r, 1, api.OK)
			case two:
				expectAt(t, b, r, 0, api.OK)
			default:
				expectFailed(t, b, n, r, 2)
			}
		}
	}
}

func TestReadingBooleans(t *testing.T) {
	for x := range 256 {
		r := Read([]byte{byte(x), 1, 0})
		got := r.Bool()
		if x > 1 {
			expectFailed(t, x, got, r, 3)
			continue
		}
		if got != (x == 1) {
			t.Errorf("Bool of %d = %v", x, got)
		}
		expectAt(t, x, r, 2, api.OK)
		if !r.Bool() || r.Bool() {
			t.Errorf("true and false behind %d were read otherwise", x)
		}
		expectAt(t, x, r, 0, api.OK)
		expectFailed(t, x, r.Bool(), r, 0)
	}
}

func TestReadingTexts(t *testing.T) {
	for _, s := range []string{"", "a", "\x00", "\xff\x80ab", "é€", strings.Repeat("x", 63), strings.Repeat("é", 32), strings.Repeat("\x00", 8192)} {
		b := referenceText(s)
		for _, most := range []int{len(s), len(s) + 1, math.MaxInt} {
			r := Read(append(b, 5))
			if got := r.Text(most); got != s {
				t.Errorf("Text(%d) = %q, not %q", most, got, s)
			}
			expectAt(t, s, r, 1, api.OK)
		}
		for _, most := range []int{len(s) - 1, -1, math.MinInt} {
			r := Read(b)
			expectFailed(t, s, r.Text(most), r, len(b))
		}
		for size := range b {
			r := Read(b[:size])
			expectFailed(t, b[:size], r.Text(math.MaxInt), r, size)
		}
	}
}

func TestTextsOfLengthsThatCannotBe(t *testing.T) {
	for _, n := range []int{-1, -2, -3, math.MinInt, 4, 1 << 31, 1 << 32, 1 << 61, math.MaxInt - 3, math.MaxInt - 2, math.MaxInt - 1, math.MaxInt} {
		b := append(referenceInt(n), "abc"...)
		for _, most := range []int{3, 1 << 40, math.MaxInt} {
			r := Read(b)
			expectFailed(t, n, r.Text(most), r, len(b))
		}
	}
}

func TestCounts(t *testing.T) {
	for _, c := range []struct{ n, most int }{{0, 0}, {0, 1}, {1, 1}, {3, 3}, {2, 3}, {64, 64}, {5, math.MaxInt}, {math.MaxInt, math.MaxInt}} {
		r := Read(append(referenceInt(c.n), 9))
		if got := r.Count(c.most); got != c.n {
			t.Errorf("Count(%d) = %d, not %d", c.most, got, c.n)
		}
		expectAt(t, c, r, 1, api.OK)
	}
	for _, c := range []struct{ n, most int }{{1, 0}, {4, 3}, {65, 64}, {0, -1}, {-1, 3}, {-1, -1}, {-1, math.MaxInt}, {-5, -3}, {math.MinInt, math.MaxInt}, {0, math.MinInt}, {math.MaxInt, math.MaxInt - 1}} {
		b := referenceInt(c.n)
		r := Read(b)
		expectFailed(t, c, r.Count(c.most), r, len(b))
	}
}

// Each call that can fail keeps what was read ahead of it, and lets all calls fail that could read what follows.
func TestAFailureInTheMiddle(t *testing.T) {
	for i, read := range reads() {
		for _, bad := range [][]byte{{131, 0, 0, 0, 0}, {255}} {
			b := append([]byte{1, 2, 97}, bad...)
			r := Read(b)
			if !r.Bool() || r.Text(1) != "a" {
				t.Error("the beginning was read otherwise")
			}
			expectAt(t, b, r, len(b)-3, api.OK)
			expectFailed(t, i, read(r, 100), r, len(b)-3)
		}
	}
}

func TestReadersHaveTheirBytesAlone(t *testing.T) {
	b := []byte{2, 4, 97, 98, 1}
	was := slices.Clone(b)
	r, q := Read(b), Read(b)
	if r.Int() != 1 {
		t.Error("Int() is not 1")
	}
	for i := range b {
		b[i] = 255
	}
	if s := r.Text(2); s != "ab" || !r.Bool() {
		t.Errorf("%q was read once the bytes had changed", s)
	}
	expectAt(t, "the one", r, 0, api.OK)
	expectAt(t, "the other", q, 5, api.OK)

	copy(b, was)
	r = Read(b)
	r.Int()
	r.Text(2)
	r.Bool()
	r.Int()
	expectBytes(t, "the argument", b, was)
}

func TestTheZeroReader(t *testing.T) {
	for _, read := range reads() {
		r := &Reader{}
		expectAt(t, "zero", r, 0, api.OK)
		expectFailed(t, "zero", read(r, 10), r, 0)
	}
}

func TestANilReader(t *testing.T) {
	for _, read := range reads() {
		var r *Reader
		expectFailed(t, "nil", read(r, 10), r, 0)
	}
}
