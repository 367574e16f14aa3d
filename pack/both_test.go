package pack

import (
	"math"
	"math/rand"
	"slices"
	"testing"

	"malthouse/api"
)

// write and read do the call for a value, which is an int, a bool or a string.
func write(w *Writer, v any) {
	switch x := v.(type) {
	case int:
		w.Int(x)
	case bool:
		w.Bool(x)
	case string:
		w.Text(x)
	}
}

func read(r *Reader, v any) any {
	switch x := v.(type) {
	case bool:
		return r.Bool()
	case string:
		return r.Text(len(x))
	}
	return r.Int()
}

func someValues(random *rand.Rand) []any {
	var l []any
	for range 1 + random.Intn(8) {
		l = append(l, []any{someInt(random), random.Intn(2) == 1, someText(random)}[random.Intn(3)])
	}
	return l
}

// P3.4: what is written is read, all of it is needed, and it is written again as it was.
func TestWhatIsWrittenIsRead(t *testing.T) {
	random := rand.New(rand.NewSource(6))
	for range 5000 {
		l := someValues(random)
		b := written(func(w *Writer) {
			for _, v := range l {
				write(w, v)
			}
		})
		r := Read(b)
		again := &Writer{}
		for _, v := range l {
			got := read(r, v)
			if got != v {
				t.Errorf("%v was read as %v", v, got)
			}
			write(again, got)
		}
		expectAt(t, l, r, 0, api.OK)
		expectBytes(t, l, again.Bytes(), b)
		for size := range b {
			r := Read(b[:size])
			for _, v := range l {
				read(r, v)
			}
			if r.Err() != api.ErrForm {
				t.Errorf("%d of the bytes %v suffice", size, b)
			}
		}
	}
}

// script has a call, and most of it, for each byte, and holds the answers of a Reader against those of the reference. What was read ahead of a failure is what a Writer writes.
func script(t *testing.T, b, calls []byte) {
	got, want := Read(b), &referenceReader{b: b}
	w := &Writer{}
	for i, c := range calls {
		most := []int{int(c >> 2), math.MaxInt, -int(c >> 2), 1 << 20}[i%4]
		read := reads()[c%4]
		v, wantV := read(got, most), read(want, most)
		if v != wantV || got.Left() != want.Left() || got.Err() != want.Err() {
			t.Fatalf("%v: call %d of %v: %v, %d left, error %d, not %v, %d, %d", b, i, calls, v, got.Left(), got.Err(), wantV, want.Left(), want.Err())
		}
		if got.Err() == api.OK {
			write(w, v)
		}
	}
	expectBytes(t, b, w.Bytes(), b[:len(b)-got.Left()])
}

// someBytes is mostly well formed, with some bytes changed.
func someBytes(random *rand.Rand) []byte {
	w := &Writer{}
	for range random.Intn(6) {
		for _, v := range someValues(random) {
			write(w, v)
		}
	}
	b := w.Bytes()
	for range random.Intn(3) {
		if len(b) > 0 {
			i := random.Intn(len(b))
			b[i] = []byte{0, 1, 2, 127, 128, 255, byte(random.Intn(256))}[random.Intn(7)]
		}
	}
	return b
}

func TestReadingOfRandomBytes(t *testing.T) {
	random := rand.New(rand.NewSource(7))
	for range 100000 {
		b := make([]byte, random.Intn(14))
		random.Read(b)
		if random.Intn(2) == 0 {
			b = someBytes(random)
		}
		if random.Intn(4) == 0 { // long integers are rare among random bytes
			for i := range min(len(b), 8+random.Intn(3)) {
				b[i] |= 128
			}
		}
		was := slices.Clone(b)
		calls := make([]byte, 1+random.Intn(12))
		random.Read(calls)
		script(t, b, calls)
		expectBytes(t, "the argument", b, was)
	}
}

func FuzzRead(f *testing.F) {
	f.Add([]byte{0, 1, 126, 127, 128, 1, 4, 195, 169, 1}, []byte{0, 0, 0, 0, 0, 254, 1})
	f.Add([]byte{128, 0}, []byte{0, 1, 2, 3})
	f.Add([]byte{255, 255, 255, 255, 255, 255, 255, 255, 255, 1, 0}, []byte{0, 1})
	f.Fuzz(script)
}
