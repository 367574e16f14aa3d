package disk

import (
	"bytes"
	"math"
	"testing"

	"malthouse/api"
)

// full is a sector's contents, all of one byte; counted are contents in which every byte tells its place.
func full(x byte) []byte { return bytes.Repeat([]byte{x}, 256) }

func counted(first byte) []byte {
	b := make([]byte, 256)
	for i := range b {
		b[i] = first + byte(i)
	}
	return b
}

func made(t *testing.T, sectors int) *Disk {
	t.Helper()
	d, e := New(sectors)
	if d == nil || e != api.OK {
		t.Fatalf("New(%d) = %v, error %d", sectors, d, e)
	}
	return d
}

func expectWrite(t *testing.T, d *Disk, at int, b []byte, want api.Errno) {
	t.Helper()
	if e := d.Write(at, b); e != want {
		t.Errorf("Write(%d, %d bytes): error %d, not %d", at, len(b), e, want)
	}
}

func expectRead(t *testing.T, d *Disk, at int, want []byte) {
	t.Helper()
	if b, e := d.Read(at); e != api.OK || !bytes.Equal(b, want) {
		t.Errorf("Read(%d) = %v, error %d, not %v", at, b, e, want)
	}
}

func expectNoRead(t *testing.T, d *Disk, at int, want api.Errno) {
	t.Helper()
	if b, e := d.Read(at); e != want || len(b) != 0 {
		t.Errorf("Read(%d) = %v, error %d, not %d", at, b, e, want)
	}
}

func expectState(t *testing.T, d *Disk, on bool, writes int) {
	t.Helper()
	if d.On() != on || d.Writes() != writes {
		t.Errorf("On() = %t, Writes() = %d, not %t, %d", d.On(), d.Writes(), on, writes)
	}
}

func TestTheExamples(t *testing.T) {
	for _, n := range []int{0, 2049} {
		if d, e := New(n); d != nil || e != api.ErrArg {
			t.Errorf("New(%d) = %v, error %d", n, d, e)
		}
	}
	d, b, c := made(t, 2), counted(1), counted(2)
	expectWrite(t, d, 1, b, api.OK)
	expectRead(t, d, 1, b)
	expectWrite(t, d, 2, b, api.ErrArg)
	expectWrite(t, d, 0, []byte{1}, api.ErrArg)
	d.Cut(1)
	expectWrite(t, d, 0, b, api.OK)
	expectWrite(t, d, 0, c, api.ErrDead)
	expectState(t, d, false, 2)
	expectNoRead(t, d, 0, api.ErrDead)
	d.Up()
	expectRead(t, d, 0, b)
	expectState(t, d, true, 2)
}

// P4.1: a new disk contains zeros, its power is on, and it stays on.
func TestANewDisk(t *testing.T) {
	for _, n := range []int{1, 2, 255, 256, 257, 2047, 2048} {
		d := made(t, n)
		if d.Sectors() != n {
			t.Errorf("New(%d) has %d sectors", n, d.Sectors())
		}
		expectState(t, d, true, 0)
		for at := range n {
			expectRead(t, d, at, full(0))
		}
		expectNoRead(t, d, n, api.ErrArg)
		for i := range 3000 {
			expectWrite(t, d, i%n, full(byte(i)), api.OK)
		}
		expectState(t, d, true, 3000)
		if d.Sectors() != n {
			t.Errorf("New(%d) has %d sectors after writes", n, d.Sectors())
		}
	}
}

func TestDisksOfNoSuchSize(t *testing.T) {
	for _, n := range []int{0, -1, -256, 2049, 4096, 1 << 32, 1<<32 + 1, math.MaxInt, math.MinInt, math.MinInt + 1} {
		if d, e := New(n); d != nil || e != api.ErrArg {
			t.Errorf("New(%d) = %v, error %d", n, d, e)
		}
	}
}

// P4.2: what is written stays until the sector is written again. P4.5: and no other sector changes.
func TestAWriteChangesItsSectorAlone(t *testing.T) {
	for _, n := range []int{1, 2, 9} {
		d := made(t, n)
		want := make([][]byte, n)
		for at := range want {
			want[at] = full(0)
		}
		for i := range 4 * n {
			at := i * 5 % n
			want[at] = counted(byte(7*i + 1))
			expectWrite(t, d, at, want[at], api.OK)
			for other, b := range want {
				expectRead(t, d, other, b)
			}
			expectState(t, d, true, i+1)
		}
	}
}

// P4.2: sectors that do not exist, and contents of another size, are refused, and nothing happens.
func TestWrongAccess(t *testing.T) {
	d := made(t, 3)
	expectWrite(t, d, 1, counted(3), api.OK)
	for _, at := range []int{-1, 3, 4, 256, 1 << 32, 1<<32 + 1, math.MaxInt, math.MinInt} {
		expectWrite(t, d, at, full(9), api.ErrArg)
		expectWrite(t, d, at, nil, api.ErrArg)
		expectNoRead(t, d, at, api.ErrArg)
	}
	for _, size := range []int{0, 1, 255, 257, 512} {
		expectWrite(t, d, 1, make([]byte, size), api.ErrArg)
	}
	expectWrite(t, d, 1, nil, api.ErrArg)
	expectWrite(t, d, 1, full(9)[:255], api.ErrArg) // its capacity would do
	expectRead(t, d, 0, full(0))
	expectRead(t, d, 1, counted(3))
	expectRead(t, d, 2, full(0))
	expectState(t, d, true, 1)
}

// R3: the disk keeps no slice that it was given, and gives out none that it keeps.
func TestSlicesAreNotShared(t *testing.T) {
	d := made(t, 2)
	b := counted(5)
	expectWrite(t, d, 0, b, api.OK)
	if !bytes.Equal(b, counted(5)) {
		t.Error("Write changed its argument")
	}
	clear(b)
	expectRead(t, d, 0, counted(5))

	got, _ := d.Read(0)
	again, _ := d.Read(0)
	clear(got)
	if !bytes.Equal(again, counted(5)) {
		t.Error("two answers of Read share their bytes")
	}
	expectRead(t, d, 0, counted(5))

	kept, _ := d.Read(0)
	expectWrite(t, d, 0, full(8), api.OK)
	if !bytes.Equal(kept, counted(5)) {
		t.Error("a write changed an earlier answer of Read")
	}
	_ = append(kept[:0:cap(kept)], full(1)...)
	expectRead(t, d, 0, full(8))
	expectRead(t, d, 1, full(0))
}

// What is read from one sector can be written to another: both are what they were then.
func TestASectorIsCopiedToAnother(t *testing.T) {
	d := made(t, 2)
	expectWrite(t, d, 0, counted(5), api.OK)
	b, _ := d.Read(0)
	expectWrite(t, d, 1, b, api.OK)
	expectWrite(t, d, 0, full(1), api.OK)
	expectRead(t, d, 1, counted(5))
	expectRead(t, d, 0, full(1))
}

// P1: a nil disk has no sectors and no power, and nothing turns that on.
func TestANilDisk(t *testing.T) {
	var d *Disk
	for range 2 {
		if d.Sectors() != 0 || d.Clone() != nil {
			t.Errorf("a nil disk has %d sectors or a clone", d.Sectors())
		}
		expectState(t, d, false, 0)
		for _, at := range []int{0, -1, math.MaxInt} {
			expectWrite(t, d, at, full(1), api.ErrDead)
			expectWrite(t, d, at, nil, api.ErrDead)
			expectNoRead(t, d, at, api.ErrDead)
		}
		for _, after := range []int{0, 1, -1} {
			d.Cut(after)
		}
		d.Up()
	}
}
