package wal

import (
	"bytes"
	"math"
	"testing"

	"malthouse/api"
	"malthouse/disk"
)

// full is a sector's contents, all of one byte; counted are contents in which every byte tells its place.
func full(x byte) []byte { return bytes.Repeat([]byte{x}, 256) }

func counted(first byte) []byte {
	b := make([]byte, 256)
	for i := range b {
		b[i] = first + byte(i)
	}
	return b
}

func newDisk(t testing.TB, sectors int) *disk.Disk {
	t.Helper()
	d, e := disk.New(sectors)
	if e != api.OK {
		t.Fatalf("disk.New(%d): error %d", sectors, e)
	}
	return d
}

func opened(t testing.TB, d *disk.Disk) *Log {
	t.Helper()
	l, e := Open(d)
	if l == nil || e != api.OK {
		t.Fatalf("Open = %v, error %d", l, e)
	}
	return l
}

func expectNoOpen(t *testing.T, d *disk.Disk, want api.Errno) {
	t.Helper()
	writes := d.Writes()
	if l, e := Open(d); l != nil || e != want {
		t.Errorf("Open of a disk of %d sectors = %v, error %d, not %d", d.Sectors(), l, e, want)
	}
	if want != api.ErrDead && d.Writes() != writes {
		t.Errorf("an Open with error %d has written", want)
	}
}

func expectCommit(t *testing.T, l *Log, g []api.Write, want api.Errno) {
	t.Helper()
	if e := l.Commit(g); e != want {
		t.Errorf("Commit of %d sectors: error %d, not %d", len(g), e, want)
	}
}

func expectRead(t *testing.T, l *Log, at int, want []byte) {
	t.Helper()
	if b, e := l.Read(at); e != api.OK || !bytes.Equal(b, want) {
		t.Errorf("Read(%d) = %v, error %d, not %v", at, b, e, want)
	}
}

func expectNoRead(t *testing.T, l *Log, at int, want api.Errno) {
	t.Helper()
	if b, e := l.Read(at); e != want || len(b) != 0 {
		t.Errorf("Read(%d) = %v, error %d, not %d", at, b, e, want)
	}
}

// contents are all data sectors, one behind the other.
func contents(t testing.TB, l *Log) string {
	t.Helper()
	all := make([]byte, 0, 256*l.Sectors())
	for at := range l.Sectors() {
		b, e := l.Read(at)
		if e != api.OK || len(b) != 256 {
			t.Fatalf("Read(%d) = %v, error %d", at, b, e)
		}
		all = append(all, b...)
	}
	return string(all)
}

// changed is what contents become by a group.
func changed(was string, g []api.Write) string {
	b := []byte(was)
	for _, w := range g {
		copy(b[256*w.At:], w.B)
	}
	return string(b)
}

// group gives so many sectors contents of their own, in an order that is not theirs; n sectors from the place first on, round the end.
func group(room, first, n int, x byte) []api.Write {
	g := make([]api.Write, n)
	for i := range g {
		at := (first + n - 1 - i) % room
		g[i] = api.Write{At: at, B: counted(x + byte(3*at))}
	}
	return g
}

func TestTheExamples(t *testing.T) {
	for _, x := range [][2]int{{3, 0}, {4, 1}, {5, 1}, {6, 2}, {132, 64}, {133, 65}} {
		if got := Room(x[0]); got != x[1] {
			t.Errorf("Room(%d) = %d, not %d", x[0], got, x[1])
		}
	}
	d := newDisk(t, 8)
	l := opened(t, d)
	if l.Sectors() != 3 {
		t.Errorf("Sectors() = %d", l.Sectors())
	}
	expectCommit(t, l, []api.Write{{At: 0, B: counted(1)}, {At: 2, B: counted(2)}}, api.OK)
	expectRead(t, l, 2, counted(2))
	expectCommit(t, l, []api.Write{{At: 1, B: full(1)}, {At: 1, B: full(2)}}, api.ErrArg)
	expectCommit(t, l, []api.Write{{At: 3, B: full(1)}}, api.ErrArg)
	expectCommit(t, l, []api.Write{{At: 1, B: []byte{1}}}, api.ErrArg)
	d.Cut(0)
	expectCommit(t, l, []api.Write{{At: 1, B: full(1)}}, api.ErrDead)
	d.Up()
	expectNoRead(t, l, 1, api.ErrDead)
	expectRead(t, opened(t, d), 1, full(0))
}

// P5.1: one data sector more would not have its place any more.
func TestRoomIsTheGreatest(t *testing.T) {
	need := func(p int) int { return 1 + (p+63)/64 + 2*p }
	for sectors := -300; sectors <= 5000; sectors++ {
		p := Room(sectors)
		if sectors < 4 {
			if p != 0 {
				t.Errorf("Room(%d) = %d, not 0", sectors, p)
			}
		} else if p < 1 || need(p) > sectors || need(p+1) <= sectors {
			t.Errorf("Room(%d) = %d: that many need %d sectors, and one more %d", sectors, p, need(p), need(p+1))
		}
	}
}

func TestRoomOfNumbersThatNoDiskHas(t *testing.T) {
	for _, sectors := range []int{math.MinInt, math.MinInt + 1, -1, 0} {
		if p := Room(sectors); p != 0 {
			t.Errorf("Room(%d) = %d, not 0", sectors, p)
		}
	}
	for back := range 300 {
		p := uint64(Room(math.MaxInt - back))
		most := uint64(math.MaxInt - back)
		if need := 1 + (p+63)/64 + 2*p; need > most || need+3 <= most && 1+(p+64)/64+2*(p+1) <= most {
			t.Errorf("Room(MaxInt - %d) = %d", back, p)
		}
	}
}

// P5.2: a log has Room of the disk's sectors, all of them zeros at first, and no more; Open of zeros writes nothing, also if the power would fail at a write.
func TestANewLog(t *testing.T) {
	for _, sectors := range []int{4, 5, 6, 7, 8, 129, 130, 131, 132, 133, 134, 135, 2047, 2048} {
		d := newDisk(t, sectors)
		d.Cut(0)
		l := opened(t, d)
		if l.Sectors() != Room(sectors) {
			t.Errorf("a disk of %d sectors: Sectors() = %d, not %d", sectors, l.Sectors(), Room(sectors))
		}
		if contents(t, l) != string(make([]byte, 256*Room(sectors))) {
			t.Errorf("a disk of %d sectors: the data sectors are not zeros", sectors)
		}
		for _, at := range []int{-1, math.MinInt, l.Sectors(), l.Sectors() + 1, sectors, math.MaxInt} {
			expectNoRead(t, l, at, api.ErrArg)
		}
		if d.Writes() != 0 || !d.On() {
			t.Errorf("a disk of %d sectors: %d writes, on: %t", sectors, d.Writes(), d.On())
		}
	}
}

func withoutPower(t *testing.T, sectors int) *disk.Disk {
	t.Helper()
	d := newDisk(t, sectors)
	fail(d)
	return d
}

// fail lets the power fail, as a write at this moment would.
func fail(d *disk.Disk) {
	d.Cut(0)
	d.Write(0, full(9))
}

// P5.2: what Open refuses, and which of two errors it tells.
func TestNoOpen(t *testing.T) {
	expectNoOpen(t, nil, api.ErrArg)
	for sectors := 1; sectors < 4; sectors++ {
		expectNoOpen(t, newDisk(t, sectors), api.ErrArg)
		expectNoOpen(t, withoutPower(t, sectors), api.ErrArg)
	}
	for _, sectors := range []int{4, 8, 200} {
		d := withoutPower(t, sectors)
		expectNoOpen(t, d, api.ErrDead)
		if d.On() {
			t.Errorf("Open has turned the power on")
		}
		d.Up()
		if contents(t, opened(t, d)) != string(make([]byte, 256*Room(sectors))) {
			t.Errorf("an Open without power has left something behind")
		}
	}
}

// P5.3: a group has its contents, all other sectors keep theirs, for groups of every size on disks where they are all there is room for, or not.
func TestCommit(t *testing.T) {
	for _, sectors := range []int{4, 5, 8, 20, 128, 129, 130, 133, 135, 300} {
		d := newDisk(t, sectors)
		l := opened(t, d)
		room := l.Sectors()
		want := contents(t, l)
		for n := range room + 1 {
			g := group(room, 5*n, n, byte(n))
			expectCommit(t, l, g, api.OK)
			want = changed(want, g)
			if got := contents(t, l); got != want {
				t.Fatalf("a disk of %d sectors, behind a group of %d: other contents", sectors, n)
			}
		}
		if contents(t, opened(t, d)) != want {
			t.Errorf("a disk of %d sectors: other contents when it is opened again", sectors)
		}
	}
}

func TestTheGreatestGroup(t *testing.T) {
	d := newDisk(t, api.MaxSectors)
	l := opened(t, d)
	g := group(l.Sectors(), 7, l.Sectors(), 1)
	want := changed(contents(t, l), g)
	expectCommit(t, l, g, api.OK)
	if contents(t, l) != want || contents(t, opened(t, d)) != want {
		t.Errorf("other contents than the group's")
	}
}

// most is the greatest number of writes for a group of n sectors.
func most(n int) int {
	if n == 0 {
		return 0
	}
	return 2*n + (n+63)/64 + 2
}

// P5.3: a group of n sectors takes no more writes than it may; an empty one takes none, and so the power does not fail in it; Read takes none.
func TestHowManyWrites(t *testing.T) {
	for _, sectors := range []int{4, 20, 133, 300} {
		d := newDisk(t, sectors)
		l := opened(t, d)
		for n := range l.Sectors() + 1 {
			had := d.Writes()
			expectCommit(t, l, group(l.Sectors(), n, n, byte(n)), api.OK)
			if took := d.Writes() - had; took > most(n) {
				t.Errorf("a disk of %d sectors, a group of %d: %d writes, more than %d", sectors, n, took, most(n))
			}
		}
		had := d.Writes()
		d.Cut(0)
		expectCommit(t, l, nil, api.OK)
		expectCommit(t, l, []api.Write{}, api.OK)
		contents(t, l)
		opened(t, d)
		if d.Writes() != had || !d.On() {
			t.Errorf("a disk of %d sectors: %d writes where there are none to do, on: %t", sectors, d.Writes()-had, d.On())
		}
	}
}

// wrong are groups for a log with three sectors of which one element is wrong, at every place.
func wrong() [][]api.Write {
	bad := []api.Write{
		{At: -1, B: full(7)}, {At: 3, B: full(7)}, {At: 8, B: full(7)}, {At: math.MaxInt, B: full(7)}, {At: math.MinInt, B: full(7)}, {At: 1 << 32, B: full(7)},
		{At: 2}, {At: 2, B: full(7)[:255]}, {At: 2, B: append(full(7), 7)}, {At: 2, B: []byte{7}},
		{At: 0, B: full(7)}, {At: 1, B: full(7)}, {At: 1, B: full(6)},
	}
	var l [][]api.Write
	for _, w := range bad {
		l = append(l, []api.Write{w, {At: 0, B: full(8)}, {At: 1, B: full(6)}})
		l = append(l, []api.Write{{At: 0, B: full(8)}, w, {At: 1, B: full(6)}})
		l = append(l, []api.Write{{At: 0, B: full(8)}, {At: 1, B: full(6)}, w})
	}
	return append(l,
		[]api.Write{{At: 3, B: full(7)}}, []api.Write{{At: -1, B: full(7)}}, []api.Write{{}},
		[]api.Write{{At: 2, B: full(7)}, {At: 0, B: full(7)}, {At: 1, B: full(7)}, {At: 2, B: full(7)}},
		make([]api.Write, 1000))
}

// P5.3: a group with a wrong element changes nothing and writes nothing, so that the power does not fail in it, and the log can be used further.
func TestWrongGroups(t *testing.T) {
	d := newDisk(t, 8)
	l := opened(t, d)
	expectCommit(t, l, group(3, 0, 3, 1), api.OK)
	want, had := contents(t, l), d.Writes()
	d.Cut(0)
	for _, g := range wrong() {
		expectCommit(t, l, g, api.ErrArg)
	}
	if contents(t, l) != want || d.Writes() != had || !d.On() {
		t.Errorf("wrong groups have changed the log, or written %d times, on: %t", d.Writes()-had, d.On())
	}
	d.Up()
	expectCommit(t, l, []api.Write{{At: 2, B: full(5)}}, api.OK)
	expectRead(t, l, 2, full(5))
	expectRead(t, opened(t, d), 2, full(5))
}

// R3: neither the group's bytes nor those that Read has returned are the log's.
func TestNothingIsShared(t *testing.T) {
	d := newDisk(t, 8)
	l := opened(t, d)
	g := []api.Write{{At: 0, B: counted(1)}, {At: 1, B: counted(2)}}
	expectCommit(t, l, g, api.OK)
	if g[0].At != 0 || g[1].At != 1 || !bytes.Equal(g[0].B, counted(1)) || !bytes.Equal(g[1].B, counted(2)) {
		t.Errorf("Commit has changed its group")
	}
	clear(g[0].B)
	g[1] = api.Write{}
	b, _ := l.Read(0)
	again, _ := l.Read(0)
	clear(b)
	if !bytes.Equal(again, counted(1)) {
		t.Errorf("two results of Read share their bytes")
	}
	_ = append(again[:0], 9, 9)
	expectRead(t, l, 0, counted(1))
	expectRead(t, l, 1, counted(2))
	expectRead(t, opened(t, d), 0, counted(1))

	same := counted(3)
	expectCommit(t, l, []api.Write{{At: 1, B: same}, {At: 2, B: same}}, api.OK)
	clear(same)
	expectRead(t, l, 1, counted(3))
	expectRead(t, l, 2, counted(3))
}

// P1: a nil log has no sectors and no power.
func TestANilLog(t *testing.T) {
	var l *Log
	if l.Sectors() != 0 {
		t.Errorf("a nil log has %d sectors", l.Sectors())
	}
	for _, at := range []int{-1, 0, 1, math.MaxInt, math.MinInt} {
		expectNoRead(t, l, at, api.ErrDead)
	}
	expectCommit(t, l, nil, api.ErrDead)
	expectCommit(t, l, []api.Write{{At: 0, B: full(1)}}, api.ErrDead)
	expectCommit(t, l, []api.Write{{At: -1}}, api.ErrDead)
}

// P5.2: a log on one disk has nothing to do with that on another one.
func TestTwoLogs(t *testing.T) {
	d, c := newDisk(t, 8), newDisk(t, 8)
	l, m := opened(t, d), opened(t, c)
	expectCommit(t, l, []api.Write{{At: 0, B: full(1)}}, api.OK)
	expectRead(t, m, 0, full(0))
	c.Cut(0)
	expectCommit(t, m, []api.Write{{At: 0, B: full(2)}}, api.ErrDead)
	expectRead(t, l, 0, full(1))
	n := opened(t, d.Clone())
	expectCommit(t, n, []api.Write{{At: 0, B: full(3)}}, api.OK)
	expectRead(t, l, 0, full(1))
}
