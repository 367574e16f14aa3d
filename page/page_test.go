package page

import (
	"bytes"
	"math"
	"slices"
	"strings"
	"testing"

	"malthouse/api"
)

// record has a key that begins with these bytes, and is filled up so that the record has so many bytes in all, lengths included.
func record(key string, bytes int) api.Pair {
	return api.Pair{Key: key, B: counted(bytes - 2 - len(key))}
}

// counted are bytes of which none is 0, so that they differ from what stands behind a page.
func counted(n int) []byte {
	b := make([]byte, n)
	for i := range b {
		b[i] = byte(1 + i%255)
	}
	return b
}

func expectSlots(t *testing.T, p api.Pair, want int) {
	t.Helper()
	if got := Slots(p); got != want {
		t.Errorf("Slots of a key of %d bytes with %d bytes = %d, not %d", len(p.Key), len(p.B), got, want)
	}
}

func expectFree(t *testing.T, l []api.Pair, want int) {
	t.Helper()
	if got := Free(l); got != want {
		t.Errorf("Free(%v) = %d, not %d", l, got, want)
	}
}

// expectLaid wants a page that begins with these bytes, and has zeros behind them.
func expectLaid(t *testing.T, l []api.Pair, want ...byte) {
	t.Helper()
	want = append(want, make([]byte, 256-len(want))...)
	if b, e := Lay(l); e != api.OK || !bytes.Equal(b, want) {
		t.Errorf("Lay(%v) = %v, error %d, not %v", l, b, e, want)
	}
}

func expectNotLaid(t *testing.T, l []api.Pair, want api.Errno) {
	t.Helper()
	if b, e := Lay(l); len(b) != 0 || e != want {
		t.Errorf("Lay(%v) = %v, error %d, not %d", l, b, e, want)
	}
}

func laid(t testing.TB, l []api.Pair) []byte {
	t.Helper()
	b, e := Lay(l)
	if e != api.OK || len(b) != 256 {
		t.Fatalf("Lay(%v) = %v, error %d", l, b, e)
	}
	return b
}

func TestTheExamples(t *testing.T) {
	expectLaid(t, nil)
	expectLaid(t, []api.Pair{})
	expectLaid(t, []api.Pair{{Key: "a", B: []byte{7}}}, 1, 1, 1, 97, 7)
	key := strings.Repeat("k", 20)
	expectSlots(t, api.Pair{Key: key, B: make([]byte, 106)}, 4)
	expectSlots(t, api.Pair{Key: key, B: make([]byte, 107)}, 0)
	expectNotLaid(t, []api.Pair{{Key: "b"}, {Key: "a"}}, api.ErrArg)
	expectNotLaid(t, []api.Pair{{Key: "a"}, {Key: "a"}}, api.ErrArg)
	expectNotLaid(t, []api.Pair{{Key: ""}}, api.ErrArg)
	expectNotLaid(t, []api.Pair{record("a", 128), record("b", 128)}, api.ErrFull)
	b := laid(t, []api.Pair{{Key: "a", B: []byte{7}}})
	b[255] = 1
	expectNotRead(t, b)
}

// P6.1: slots begin behind 32, 64 and 96 bytes, for keys of every length, and a record ends at 128.
func TestSlotsOfEverySize(t *testing.T) {
	for key := range 30 {
		for contents := range 300 {
			want := 0
			for _, bytes := range []int{0, 32, 64, 96} {
				if 2+key+contents > bytes {
					want++
				}
			}
			if key == 0 || key > 20 || 2+key+contents > 128 {
				want = 0
			}
			expectSlots(t, api.Pair{Key: strings.Repeat("k", key), B: make([]byte, contents)}, want)
		}
	}
}

func TestSlotsAtTheEdges(t *testing.T) {
	for _, x := range [][2]int{{3, 1}, {31, 1}, {32, 1}, {33, 2}, {64, 2}, {65, 3}, {96, 3}, {97, 4}, {127, 4}, {128, 4}, {129, 0}} {
		expectSlots(t, record("a", x[0]), x[1])
	}
	expectSlots(t, api.Pair{}, 0)
	expectSlots(t, api.Pair{B: []byte{1}}, 0)
	expectSlots(t, api.Pair{Key: "a"}, 1)
	expectSlots(t, api.Pair{Key: "a", B: []byte{}}, 1)
	for _, n := range []int{256, 257, 512, 1 << 16, 1<<16 + 1, 1 << 24} { // which a byte would tell as a few
		expectSlots(t, api.Pair{Key: "a", B: make([]byte, n)}, 0)
		expectSlots(t, api.Pair{Key: strings.Repeat("k", n+1)}, 0)
	}
}

// P6.1: a key is counted in bytes, whatever they are.
func TestKeysOfAnyBytes(t *testing.T) {
	for _, key := range []string{"\x00", "\xff", " ", "\xc3", "é", strings.Repeat("é", 10), strings.Repeat("\x00", 20), strings.Repeat("\xff", 20)} {
		expectSlots(t, api.Pair{Key: key}, 1)
		expectSlots(t, record(key, 128), 4)
		expectSlots(t, record(key, 129), 0)
	}
	for _, key := range []string{strings.Repeat("é", 11), strings.Repeat("\x00", 21), strings.Repeat("€", 7)} {
		expectSlots(t, api.Pair{Key: key}, 0)
	}
}

// P6.1: Free counts the slots of all elements, in any order and also if keys are the same.
func TestFree(t *testing.T) {
	expectFree(t, nil, 7)
	expectFree(t, []api.Pair{}, 7)
	one, two, three, four := record("a", 32), record("b", 33), record("c", 96), record("d", 128)
	expectFree(t, []api.Pair{one}, 6)
	expectFree(t, []api.Pair{two}, 5)
	expectFree(t, []api.Pair{three}, 4)
	expectFree(t, []api.Pair{four}, 3)
	expectFree(t, []api.Pair{four, two}, 1)
	expectFree(t, []api.Pair{three, four}, 0)
	expectFree(t, []api.Pair{four, four}, 0)
	expectFree(t, []api.Pair{two, one, two}, 2)
	expectFree(t, []api.Pair{one, four, one, four, one}, 0)
	for n := range 300 {
		l := slices.Repeat([]api.Pair{one}, n)
		expectFree(t, l, max(0, 7-n))
	}
	if got := Free(slices.Repeat([]api.Pair{four}, 1<<20)); got != 0 {
		t.Errorf("Free of very many records = %d", got)
	}
}

// notRecords are what an element of a page may not be.
func notRecords() []api.Pair {
	return []api.Pair{
		{}, {B: []byte{1}}, {B: make([]byte, 126)}, {B: make([]byte, 127)},
		{Key: strings.Repeat("k", 21)}, {Key: strings.Repeat("k", 256)}, {Key: strings.Repeat("k", 257)},
		record("k", 129), record("k", 130), record(strings.Repeat("k", 20), 129), {Key: "k", B: make([]byte, 256)}, {Key: "k", B: make([]byte, 257)},
	}
}

// P6.1: one element that is not a record, at any place, leaves nothing free, and P6.2: makes the list no page.
func TestElementsThatAreNotRecords(t *testing.T) {
	for _, bad := range notRecords() {
		expectSlots(t, bad, 0)
		good := []api.Pair{{Key: "a"}, {Key: "b", B: []byte{1}}, {Key: "z"}}
		for at := range len(good) + 1 {
			l := slices.Insert(slices.Clone(good), at, bad)
			expectFree(t, l, 0)
			expectNotLaid(t, l, api.ErrArg)
		}
	}
}

// P6.2: the bytes of a page, one by one.
func TestLay(t *testing.T) {
	expectLaid(t, []api.Pair{{Key: "a"}}, 1, 1, 0, 'a')
	expectLaid(t, []api.Pair{{Key: "a"}, {Key: "b"}}, 2, 1, 0, 'a', 1, 0, 'b')
	expectLaid(t, []api.Pair{{Key: "\x00", B: []byte{0, 0}}, {Key: "\x00\xff", B: []byte{255}}, {Key: "ab"}, {Key: "é", B: []byte("xyz")}},
		4, 1, 2, 0, 0, 0, 2, 1, 0, 255, 255, 2, 0, 'a', 'b', 2, 3, 0xc3, 0xa9, 'x', 'y', 'z')
	one := record("k", 128)
	expectLaid(t, []api.Pair{one}, slices.Concat([]byte{1, 1, 125, 'k'}, one.B)...)
	key := strings.Repeat("z", 20)
	two := record(key, 96)
	expectLaid(t, []api.Pair{one, two}, slices.Concat([]byte{2, 1, 125, 'k'}, one.B, []byte{20, 74}, []byte(key), two.B)...)
}

// few are so many records with increasing keys, each of so many bytes. The last byte of the last one is not 0, if they are at most 255.
func few(n, bytes int) []api.Pair {
	l := make([]api.Pair, n)
	for i := range l {
		l[i] = record(string([]byte{byte((i + 1) >> 8), byte(i + 1)}), bytes)
	}
	return l
}

// P6.2: seven slots are full, whatever they are the slots of, and eight are too many, also if they have few bytes, or so many records that their number would not stand in a byte.
func TestAFullPage(t *testing.T) {
	for n := range 8 {
		for _, bytes := range []int{4, 32} {
			b := laid(t, few(n, bytes))
			if int(b[0]) != n || bytes*n > 0 && b[bytes*n] == 0 || !slices.Equal(b[1+bytes*n:], make([]byte, 255-bytes*n)) {
				t.Errorf("a page of %d records of %d bytes: %v", n, bytes, b)
			}
		}
	}
	for _, n := range []int{8, 9, 63, 255, 256, 257, 263, 1000} {
		expectNotLaid(t, few(n, 4), api.ErrFull)
	}
	sizes := []int{4, 32, 33, 64, 65, 96, 97, 128}
	for _, x := range sizes {
		for _, y := range sizes {
			for _, z := range sizes {
				l := []api.Pair{record("a", x), record("b", y), record("c", z)}
				if (x+31)/32+(y+31)/32+(z+31)/32 > 7 {
					expectNotLaid(t, l, api.ErrFull)
				} else {
					laid(t, l)
				}
			}
		}
	}
}

// P6.2: keys increase by their bytes, from one to the next, wherever that is in the list.
func TestTheOrderOfKeys(t *testing.T) {
	keys := []string{"\x00", "\x00\x00", "\x01", "A", "B", "a", "a\x00", "aa", "ab", "b", "z", "\x7f", "\x80", "é", "\xff", "\xff\x00", "\xff\xff"}
	for i, x := range keys {
		for k, y := range keys {
			l := []api.Pair{{Key: x}, {Key: y}}
			if i < k {
				laid(t, l)
				continue
			}
			expectNotLaid(t, l, api.ErrArg)
		}
	}
	for at := range 6 {
		l := few(7, 5)
		l[at], l[at+1] = l[at+1], l[at]
		expectNotLaid(t, l, api.ErrArg)
		l = few(7, 5)
		l[at+1].Key = l[at].Key
		expectNotLaid(t, l, api.ErrArg)
	}
	expectNotLaid(t, []api.Pair{{Key: "a"}, {Key: "b"}, {Key: "a"}}, api.ErrArg)
	expectNotLaid(t, []api.Pair{{Key: "a", B: []byte{1}}, {Key: "a", B: []byte{2}}}, api.ErrArg)
}

// P6.2, R2: ErrArg is named ahead of ErrFull, also if what is wrong stands behind what is too much.
func TestWhichErrorOfTwo(t *testing.T) {
	for _, bad := range notRecords() {
		for _, at := range []int{0, 1, 4, 8, 10} {
			expectNotLaid(t, slices.Insert(few(10, 32), at, bad), api.ErrArg)
		}
	}
	for at := range 9 {
		l := few(10, 32)
		l[at], l[at+1] = l[at+1], l[at]
		expectNotLaid(t, l, api.ErrArg)
	}
	expectNotLaid(t, []api.Pair{record("a", 128), record("a", 128)}, api.ErrArg)
	expectNotLaid(t, []api.Pair{record("b", 128), record("a", 128)}, api.ErrArg)
	expectNotLaid(t, slices.Repeat([]api.Pair{{Key: "a"}}, math.MaxUint16), api.ErrArg)
}

// R3: Lay leaves its records alone, and what it returns is not theirs, nor that of another call.
func TestLaySharesNothing(t *testing.T) {
	contents := []byte{1, 2, 3, 4}
	l := []api.Pair{{Key: "a", B: contents[:2]}, {Key: "b", B: contents[:3]}}
	b, again := laid(t, l), laid(t, l)
	want := slices.Clone(b)
	if l[0].Key != "a" || l[1].Key != "b" || len(l[0].B) != 2 || len(l[1].B) != 3 || !slices.Equal(contents, []byte{1, 2, 3, 4}) {
		t.Errorf("Lay has changed its records: %v, %v", l, contents)
	}
	clear(again)
	if !slices.Equal(b, want) {
		t.Errorf("two results of Lay share their bytes")
	}
	clear(contents)
	if !slices.Equal(b, want) {
		t.Errorf("a result of Lay shares its bytes with a record")
	}
	l[0].B[0] = 5
	clear(b)
	if contents[0] != 5 {
		t.Errorf("a change of the result has reached a record")
	}
}
