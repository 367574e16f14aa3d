package page

import (
	"bytes"
	"slices"
	"strings"
	"testing"

	"malthouse/api"
)

func same(l, m []api.Pair) bool {
	return slices.EqualFunc(l, m, func(p, q api.Pair) bool { return p.Key == q.Key && bytes.Equal(p.B, q.B) })
}

func expectRead(t *testing.T, b []byte, want []api.Pair) {
	t.Helper()
	if l, e := Read(b); e != api.OK || !same(l, want) {
		t.Errorf("Read(%v) = %v, error %d, not %v", b, l, e, want)
	}
}

func expectNotRead(t *testing.T, b []byte) {
	t.Helper()
	if l, e := Read(b); len(l) != 0 || e != api.ErrForm {
		t.Errorf("Read(%v) = %v, error %d, not %d", b, l, e, api.ErrForm)
	}
}

// sector begins with these bytes, and has zeros behind them.
func sector(parts ...[]byte) []byte {
	b := slices.Concat(parts...)
	return append(b, make([]byte, 256-len(b))...)
}

// entry is a record's encoding, also of what is not a record.
func entry(key string, contents []byte) []byte {
	return slices.Concat([]byte{byte(len(key)), byte(len(contents))}, []byte(key), contents)
}

// pages are some of every kind: empty ones, full ones, of the shortest and of the longest records.
func pages() [][]api.Pair {
	key := strings.Repeat("z", 20)
	l := [][]api.Pair{
		nil,
		{{Key: "a"}},
		{{Key: "a", B: []byte{7}}},
		{{Key: "\x00"}},
		{{Key: "\x00", B: make([]byte, 100)}},
		{{Key: "\xff", B: []byte{0, 255, 0}}, {Key: "\xff\x00"}},
		{record("a", 128), record(key, 96)},
		{record(key[:19], 96), record(key, 128)},
		{{Key: key, B: make([]byte, 106)}, {Key: key[:19] + "~", B: make([]byte, 74)}},
		{record("a", 64), record("b", 64), record("c", 64), record("d", 32)},
		{{Key: "a", B: []byte{1}}, {Key: "aa"}, {Key: "aaa", B: []byte{2}}},
	}
	for n := range 8 {
		l = append(l, few(n, 4), few(n, 32))
	}
	return l
}

// P6.3, P6.4: what was laid is read, and laid again as it was.
func TestWhatIsLaidIsRead(t *testing.T) {
	for _, l := range pages() {
		b := laid(t, l)
		expectRead(t, b, l)
		got, _ := Read(b)
		if again := laid(t, got); !bytes.Equal(again, b) {
			t.Errorf("%v was laid as %v, and then as %v", l, b, again)
		}
	}
}

func TestReadBytesWrittenOut(t *testing.T) {
	expectRead(t, sector(), nil)
	expectRead(t, sector([]byte{1, 1, 1, 97, 7}), []api.Pair{{Key: "a", B: []byte{7}}})
	expectRead(t, sector([]byte{2, 1, 0, 'a', 2, 3, 'a', 'b', 0, 1, 0}), []api.Pair{{Key: "a"}, {Key: "ab", B: []byte{0, 1, 0}}})
	expectRead(t, sector([]byte{1}, entry("k", counted(125))), []api.Pair{{Key: "k", B: counted(125)}})
}

// P6.3: a page has 256 bytes.
func TestReadOtherLengths(t *testing.T) {
	expectNotRead(t, nil)
	expectNotRead(t, []byte{})
	for _, l := range pages() {
		b := laid(t, l)
		for n := range 256 {
			expectNotRead(t, b[:n])
		}
		for _, n := range []int{1, 2, 256, 4096} {
			expectNotRead(t, append(slices.Clone(b), make([]byte, n)...))
		}
	}
	expectNotRead(t, bytes.Repeat([]byte{255}, 255))
	expectNotRead(t, bytes.Repeat([]byte{255}, 257))
}

// P6.3: behind the records there are zeros, up to the last byte.
func TestReadBytesBehindTheRecords(t *testing.T) {
	for _, l := range pages() {
		b := laid(t, l)
		used := 1
		for _, p := range l {
			used += 2 + len(p.Key) + len(p.B)
		}
		for at := used; at < 256; at++ {
			for _, x := range []byte{1, 128, 255} {
				c := slices.Clone(b)
				c[at] = x
				expectNotRead(t, c)
			}
		}
	}
}

// P6.3: the first byte is the number of records, no more and no less.
func TestReadOtherCounts(t *testing.T) {
	for _, l := range pages() {
		for n := range 256 {
			if n != len(l) {
				b := laid(t, l)
				b[0] = byte(n)
				expectNotRead(t, b)
			}
		}
	}
}

// P6.3: what has the form of records, but is none, or is not a page.
func TestReadWhatIsNotAPage(t *testing.T) {
	long := strings.Repeat("k", 21)
	for _, b := range [][]byte{
		sector([]byte{1}, entry("", nil)),
		sector([]byte{1}, entry("", []byte{1})),
		sector([]byte{2}, entry("", nil), entry("a", nil)),
		sector([]byte{1}, entry(long, nil)),
		sector([]byte{1}, entry(long[:20], make([]byte, 107))),
		sector([]byte{1}, entry(long[:20], counted(107))),
		sector([]byte{1}, entry("k", counted(126))),
		sector([]byte{1}, entry("k", counted(252))),
		sector([]byte{2}, entry("b", nil), entry("a", nil)),
		sector([]byte{2}, entry("a", nil), entry("a", nil)),
		sector([]byte{2}, entry("a", []byte{1}), entry("a", []byte{2})),
		sector([]byte{2}, entry("aa", nil), entry("a", nil)),
		sector([]byte{2}, entry("\xff", nil), entry("a", nil)),
		sector([]byte{3}, entry("a", nil), entry("c", nil), entry("b", nil)),
		sector([]byte{2}, entry("a", counted(94)), entry("b", counted(94))),
		sector([]byte{2}, entry("a", counted(125)), entry("b", counted(124))),
		sector([]byte{3}, entry("a", counted(62)), entry("b", counted(62)), entry("c", counted(30))),
		sector([]byte{8}, entry("a", nil), entry("b", nil), entry("c", nil), entry("d", nil), entry("e", nil), entry("f", nil), entry("g", nil), entry("h", nil)),
	} {
		expectNotRead(t, b)
	}
	for _, x := range []byte{1, 2, 7, 8, 20, 127, 128, 255} {
		expectNotRead(t, bytes.Repeat([]byte{x}, 256))
	}
}

// P1: lengths that lead to the end of the sector, or over it, at every place where a record may begin.
func TestReadLengthsBeyondTheSector(t *testing.T) {
	for fill := range 124 {
		first := entry("a", make([]byte, fill))
		for second := range 124 {
			b := sector([]byte{3}, first, entry("b", make([]byte, second)))
			at := 1 + len(first) + 3 + second
			for _, lengths := range [][2]byte{{1, 255}, {255, 1}, {20, 255}, {255, 255}, {1, byte(256 - at - 3 + 1)}} {
				if at+1 < 256 {
					b[at], b[at+1] = lengths[0], lengths[1]
					expectNotRead(t, b)
				}
			}
		}
	}
	for left := range 6 { // a record that would begin in the last bytes, or behind them
		b := sector([]byte{2}, entry("a", make([]byte, 252-left)))
		expectNotRead(t, b)
		b[255] = 1
		expectNotRead(t, b)
		b[0] = 255
		expectNotRead(t, b)
	}
}

// Ways: a record's contents have no capacity of their neighbour's, so that each of them can be changed and made longer by itself.
func TestRecordsDoNotReachEachOther(t *testing.T) {
	for _, want := range pages() {
		b := laid(t, want)
		for i := range want {
			l, _ := Read(b)
			if cap(l[i].B) != len(l[i].B) {
				t.Errorf("%v: record %d has %d bytes and a capacity of %d", want, i, len(l[i].B), cap(l[i].B))
			}
			clear(l[i].B)
			l[i].B = append(l[i].B, 201, 202, 203, 204)
			l[i].B = want[i].B
			if !same(l, want) {
				t.Errorf("%v: a change of record %d has made it %v", want, i, l)
			}
		}
	}
}

// R3: the records are not the argument's bytes, nor those of another call.
func TestReadSharesNothing(t *testing.T) {
	for _, want := range pages() {
		b := laid(t, want)
		was := slices.Clone(b)
		l, _ := Read(b)
		again, _ := Read(b)
		for i := range again {
			again[i].Key = "x"
			for k := range again[i].B {
				again[i].B[k] ^= 255
			}
		}
		if !bytes.Equal(b, was) {
			t.Errorf("%v: the bytes have become %v by a change of the records", want, b)
		}
		for i := range b {
			b[i] ^= 255
		}
		if !same(l, want) {
			t.Errorf("%v has become %v by a change of the bytes, or of other records", want, l)
		}
	}
}
