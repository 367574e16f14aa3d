package pack

import (
	"bytes"
	"encoding/binary"
	"math"
	"math/rand"
	"strings"
	"testing"
)

// edges are the integers at which an encoding gets a byte more, and those beside them, with the least and the greatest one.
func edges() []int {
	l := []int{0, 1, -1, 2, -2, math.MaxInt64, math.MaxInt64 - 1, math.MinInt64, math.MinInt64 + 1}
	for bits := 6; bits < 63; bits += 7 {
		n := 1 << bits
		l = append(l, n-1, n, n+1, -n-1, -n, -n+1)
	}
	return l
}

func written(write func(*Writer)) []byte {
	w := &Writer{}
	write(w)
	return w.Bytes()
}

func expectBytes(t *testing.T, what any, got, want []byte) {
	t.Helper()
	if !bytes.Equal(got, want) {
		t.Errorf("%v: bytes %v, not %v", what, got, want)
	}
}

func TestTheExamplesOfWriting(t *testing.T) {
	all := written(func(w *Writer) {
		for _, n := range []int{0, -1, 63, -64, 64, -65} {
			w.Int(n)
		}
		w.Text("é")
		w.Bool(true)
		w.Int(-1 << 63)
	})
	expectBytes(t, "the examples", all, []byte{0, 1, 126, 127, 128, 1, 129, 1, 4, 195, 169, 1, 255, 255, 255, 255, 255, 255, 255, 255, 255, 1})
}

func TestTheZeroWriterIsEmpty(t *testing.T) {
	var w Writer
	if b := w.Bytes(); len(b) != 0 {
		t.Errorf("bytes %v", b)
	}
	w.Int(1)
	expectBytes(t, "Int(1)", w.Bytes(), []byte{2})
}

func TestWritingIntegers(t *testing.T) {
	for n, want := range map[int][]byte{
		1: {2}, 2: {4}, -2: {3}, -3: {5}, 128: {128, 2}, 300: {216, 4}, -129: {129, 2}, 8191: {254, 127}, -8192: {255, 127}, 8192: {128, 128, 1}, -8193: {129, 128, 1},
		1<<62 - 1: {254, 255, 255, 255, 255, 255, 255, 255, 127}, -1 << 62: {255, 255, 255, 255, 255, 255, 255, 255, 127}, 1 << 62: {128, 128, 128, 128, 128, 128, 128, 128, 128, 1},
		-1<<62 - 1: {129, 128, 128, 128, 128, 128, 128, 128, 128, 1}, math.MaxInt64: {254, 255, 255, 255, 255, 255, 255, 255, 255, 1},
	} {
		expectBytes(t, n, written(func(w *Writer) { w.Int(n) }), want)
	}
}

func TestWritingIntegersIsWhatTheReferencesDo(t *testing.T) {
	random := rand.New(rand.NewSource(3))
	l := edges()
	for range 20000 {
		l = append(l, someInt(random))
	}
	for n := range 20000 {
		l = append(l, n, -n)
	}
	for _, n := range l {
		b := written(func(w *Writer) { w.Int(n) })
		expectBytes(t, n, b, referenceInt(n))
		expectBytes(t, n, b, binary.AppendVarint(nil, int64(n)))
	}
}

func TestTheLengthOfIntegers(t *testing.T) {
	for size := 1; size <= 9; size++ {
		greatest := 1<<(7*size-1) - 1
		for n, want := range map[int]int{greatest: size, -greatest - 1: size, greatest + 1: size + 1, -greatest - 2: size + 1} {
			if got := len(written(func(w *Writer) { w.Int(n) })); got != want {
				t.Errorf("%d has %d bytes, not %d", n, got, want)
			}
		}
	}
}

func TestWritingBooleans(t *testing.T) {
	expectBytes(t, "false, true, false", written(func(w *Writer) { w.Bool(false); w.Bool(true); w.Bool(false) }), []byte{0, 1, 0})
}

func TestWritingTexts(t *testing.T) {
	for s, want := range map[string][]byte{"": {0}, "a": {2, 97}, "\x00": {2, 0}, "ab\xff\x80": {8, 97, 98, 255, 128}, "é€": {10, 195, 169, 226, 130, 172}} {
		expectBytes(t, s, written(func(w *Writer) { w.Text(s) }), want)
	}
	for size, begin := range map[int][]byte{63: {126}, 64: {128, 1}, 8191: {254, 127}, 8192: {128, 128, 1}, 1 << 20: {128, 128, 128, 1}} {
		s := strings.Repeat("x", size)
		expectBytes(t, size, written(func(w *Writer) { w.Text(s) }), append(begin, s...))
	}
}

func TestBytesOfManyWrites(t *testing.T) {
	random := rand.New(rand.NewSource(4))
	for range 200 {
		w := &Writer{}
		var want []byte
		for range random.Intn(40) {
			switch random.Intn(3) {
			case 0:
				n := someInt(random)
				w.Int(n)
				want = append(want, referenceInt(n)...)
			case 1:
				b := random.Intn(2) == 1
				w.Bool(b)
				want = append(want, referenceBool(b)...)
			case 2:
				s := someText(random)
				w.Text(s)
				want = append(want, referenceText(s)...)
			}
			if random.Intn(4) == 0 {
				expectBytes(t, "so far", w.Bytes(), want)
			}
		}
		expectBytes(t, "all", w.Bytes(), want)
		expectBytes(t, "all again", w.Bytes(), want)
	}
}

func TestWritingManyBytes(t *testing.T) {
	w := &Writer{}
	for range 300000 {
		w.Int(-65)
	}
	if b := w.Bytes(); !bytes.Equal(b, bytes.Repeat([]byte{129, 1}, 300000)) {
		t.Errorf("%d bytes", len(b))
	}
}

func TestBytesAreTheCallers(t *testing.T) {
	for size := range 100 { // with any room behind what the Writer has
		w := &Writer{}
		for range size {
			w.Int(7)
		}
		b := w.Bytes()
		_ = append(b, 99)
		w.Int(8)
		after := w.Bytes()
		want := append(bytes.Repeat([]byte{14}, size), 16)
		expectBytes(t, size, after, want)
		expectBytes(t, size, b, want[:size])
		for i := range after {
			after[i] = 99
		}
		expectBytes(t, size, w.Bytes(), want)
		w.Bool(true)
		expectBytes(t, size, b, want[:size])
	}
}

func TestWritersAreApart(t *testing.T) {
	v, w := &Writer{}, &Writer{}
	v.Int(1)
	w.Int(2)
	v.Text("a")
	w.Bool(true)
	expectBytes(t, "the one", v.Bytes(), []byte{2, 2, 97})
	expectBytes(t, "the other", w.Bytes(), []byte{4, 1})
}

func TestANilWriter(t *testing.T) {
	var w *Writer
	w.Int(5)
	w.Bool(true)
	w.Text("abc")
	if b := w.Bytes(); len(b) != 0 {
		t.Errorf("bytes %v", b)
	}
}
