package store

import (
	"bytes"
	"fmt"
	"slices"
	"strings"
	"testing"

	"malthouse/api"
	"malthouse/disk"
	"malthouse/page"
	"malthouse/wal"
)

func put(key, contents string) api.Act { return api.Act{Key: key, B: []byte(contents)} }

func drop(key string) api.Act { return api.Act{Key: key, Drop: true} }

// sized is an act whose record has exactly so many slots; x tells one from another.
func sized(key string, slots int, x byte) api.Act {
	return api.Act{Key: key, B: bytes.Repeat([]byte{x}, 32*slots-2-len(key))}
}

func newDisk(t testing.TB, sectors int) *disk.Disk {
	t.Helper()
	d, e := disk.New(sectors)
	if e != api.OK {
		t.Fatalf("disk.New(%d): error %d", sectors, e)
	}
	return d
}

func opened(t testing.TB, d *disk.Disk) *Store {
	t.Helper()
	s, e := Open(d)
	if s == nil || e != api.OK {
		t.Fatalf("Open = %v, error %d", s, e)
	}
	return s
}

// fail lets the power fail at once, by a write of nobody's.
func fail(d *disk.Disk) {
	d.Cut(0)
	d.Write(0, make([]byte, 256))
}

func expectNoOpen(t *testing.T, d *disk.Disk, want api.Errno) {
	t.Helper()
	if s, e := Open(d); s != nil || e != want {
		t.Errorf("Open of a disk of %d sectors = %v, error %d, not %d", d.Sectors(), s, e, want)
	}
}

func expectApply(t *testing.T, s *Store, want api.Errno, l ...api.Act) {
	t.Helper()
	if e := s.Apply(l); e != want {
		t.Errorf("Apply of %d acts: error %d, not %d", len(l), e, want)
	}
}

// told is all records in one text, which equals another one only if the records are the same.
func told(l []api.Pair) string {
	var b strings.Builder
	for _, r := range l {
		fmt.Fprintf(&b, "%q: %q; ", r.Key, r.B)
	}
	return b.String()
}

// expectAll is that a store has these records, whichever way it is asked. They come as key, contents, key, contents and so on.
func expectAll(t *testing.T, s *Store, want ...string) {
	t.Helper()
	var l []api.Pair
	used := 0
	for i := 0; i < len(want); i += 2 {
		l = append(l, api.Pair{Key: want[i], B: []byte(want[i+1])})
		used += (2 + len(want[i]) + len(want[i+1]) + 31) / 32
		if b, there := s.Get(want[i]); !there || string(b) != want[i+1] {
			t.Errorf("Get(%q) = %q, %t, not %q", want[i], b, there, want[i+1])
		}
	}
	if told(s.All()) != told(l) {
		t.Errorf("All() = %s, not %s", told(s.All()), told(l))
	}
	if s.Used() != used {
		t.Errorf("Used() = %d, not %d", s.Used(), used)
	}
}

func expectNone(t *testing.T, s *Store, keys ...string) {
	t.Helper()
	for _, key := range keys {
		if b, there := s.Get(key); there || len(b) != 0 {
			t.Errorf("Get(%q) = %q, %t", key, b, there)
		}
	}
}

// The table of the chapter.
func TestExamples(t *testing.T) {
	d := newDisk(t, 12)
	s := opened(t, d)
	if s.Room() != 20 {
		t.Errorf("Room() = %d", s.Room())
	}
	expectApply(t, s, api.OK, put("b", "2"), put("a", "1"))
	expectAll(t, s, "a", "1", "b", "2")
	expectApply(t, s, api.OK, drop("a"), put("c", "3"))
	expectNone(t, s, "a")
	expectAll(t, s, "b", "2", "c", "3")
	expectApply(t, s, api.ErrArg, put("a", "1"), put("a", "1"))
	expectApply(t, s, api.ErrArg, put("", "1"))
	expectApply(t, s, api.ErrLong, make([]api.Act, 201)...)
	var six []api.Act
	for i := range 6 {
		six = append(six, sized(fmt.Sprint(i), 4, 1))
	}
	expectApply(t, s, api.ErrFull, six...)
	had := d.Writes()
	expectApply(t, s, api.OK, put("b", "2"))
	if d.Writes() != had {
		t.Errorf("an unchanged record is written")
	}
	expectAll(t, s, "b", "2", "c", "3")
}

// P7.1: the errors of wal.Open.
func TestOpenFails(t *testing.T) {
	expectNoOpen(t, nil, api.ErrArg)
	for _, sectors := range []int{1, 2, 3} {
		expectNoOpen(t, newDisk(t, sectors), api.ErrArg)
	}
	d := newDisk(t, 12)
	fail(d)
	expectNoOpen(t, d, api.ErrDead)
	small := newDisk(t, 3)
	fail(small)
	expectNoOpen(t, small, api.ErrArg)
}

// P7.1: the store on a disk of zeros has no records, and opening it writes nothing; P7.2: Room.
func TestOpenOfZeros(t *testing.T) {
	for sectors, room := range map[int]int{4: 4, 5: 4, 6: 8, 12: 20, 132: 256, 133: 260, 200: 392, 2048: 4060} {
		d := newDisk(t, sectors)
		s := opened(t, d)
		expectAll(t, s)
		expectNone(t, s, "a", "", strings.Repeat("k", 21))
		if s.Room() != room {
			t.Errorf("%d sectors: Room() = %d, not %d", sectors, s.Room(), room)
		}
		if d.Writes() != 0 {
			t.Errorf("%d sectors: opening has written", sectors)
		}
	}
}

// P7.1: what is in the data sectors must be what a store leaves there.
func TestOpenOfForeignContents(t *testing.T) {
	lay := func(acts ...api.Act) []byte {
		var l []api.Pair
		for _, a := range acts {
			l = append(l, api.Pair{Key: a.Key, B: a.B})
		}
		b, e := page.Lay(l)
		if e != api.OK {
			t.Fatalf("page.Lay: error %d", e)
		}
		return b
	}
	four := lay(sized("p", 4, 1))
	seven := lay(sized("x", 4, 1), sized("y", 3, 1))
	for name, x := range map[string]struct {
		g    []api.Write
		want api.Errno
	}{
		"pages":                  {[]api.Write{{At: 0, B: lay(put("a", "1"))}, {At: 4, B: lay(put("b", "2"))}}, api.OK},
		"keys in no order":       {[]api.Write{{At: 0, B: lay(put("b", "1"))}, {At: 1, B: lay(put("a", "2"))}}, api.OK},
		"as many slots as Room":  {[]api.Write{{At: 0, B: seven}, {At: 1, B: four}, {At: 2, B: lay(sized("q", 4, 1))}, {At: 3, B: lay(sized("r", 4, 1))}, {At: 4, B: lay(put("s", ""))}}, api.OK},
		"one slot more":          {[]api.Write{{At: 0, B: seven}, {At: 1, B: four}, {At: 2, B: lay(sized("q", 4, 1))}, {At: 3, B: lay(sized("r", 4, 1))}, {At: 4, B: lay(put("s", ""), put("t", ""))}}, api.ErrForm},
		"no page":                {[]api.Write{{At: 2, B: bytes.Repeat([]byte{1}, 256)}}, api.ErrForm},
		"no page in the last":    {[]api.Write{{At: 4, B: bytes.Repeat([]byte{255}, 256)}}, api.ErrForm},
		"a byte behind the page": {[]api.Write{{At: 0, B: append(lay()[:255], 1)}}, api.ErrForm},
		"a key twice":            {[]api.Write{{At: 0, B: lay(put("a", "1"))}, {At: 3, B: lay(put("a", "2"))}}, api.ErrForm},
		"a record twice":         {[]api.Write{{At: 1, B: four}, {At: 2, B: four}}, api.ErrForm},
	} {
		d := newDisk(t, 12)
		l, _ := wal.Open(d)
		if e := l.Commit(x.g); e != api.OK {
			t.Fatalf("%s: Commit: error %d", name, e)
		}
		if s, e := Open(d); e != x.want || (s == nil) != (e != api.OK) {
			t.Errorf("%s: Open = %v, error %d, not %d", name, s, e, x.want)
		}
	}
}

// R1: a disk that a log does not know is refused, or there is some store on it.
func TestOpenOfAForeignDisk(t *testing.T) {
	for _, x := range []byte{1, 2, 128, 255} {
		for at := range 12 {
			d := newDisk(t, 12)
			d.Write(at, bytes.Repeat([]byte{x}, 256))
			if s, e := Open(d); e != api.ErrForm && e != api.OK || (s == nil) != (e != api.OK) {
				t.Errorf("Open = %v, error %d", s, e)
			}
		}
	}
}

// P7.2: increasing order is that of the bytes, whatever the order in which the records came; also in a store that is opened again.
func TestAllIsInOrder(t *testing.T) {
	d := newDisk(t, 40)
	s := opened(t, d)
	for _, key := range []string{"b", "\xff", "a\x00", "\x00", "aa", "a", "B", "é", "10", "9", strings.Repeat("z", 20)} {
		expectApply(t, s, api.OK, put(key, "of "+key))
	}
	want := []string{"\x00", "of \x00", "10", "of 10", "9", "of 9", "B", "of B", "a", "of a", "a\x00", "of a\x00", "aa", "of aa", "b", "of b",
		strings.Repeat("z", 20), "of " + strings.Repeat("z", 20), "é", "of é", "\xff", "of \xff"}
	expectAll(t, s, want...)
	expectAll(t, opened(t, d), want...)
}

// P7.2 and P7.3: records of every size; a record may have no contents, which is another thing than none.
func TestSizes(t *testing.T) {
	for _, length := range []int{1, 19, 20} {
		key := strings.Repeat("k", length)
		for n := 0; n <= 126-length; n++ {
			d := newDisk(t, 4)
			s := opened(t, d)
			contents := strings.Repeat("c", n)
			expectApply(t, s, api.OK, put(key, contents))
			expectAll(t, s, key, contents)
			expectAll(t, opened(t, d), key, contents)
		}
		s := opened(t, newDisk(t, 4))
		expectApply(t, s, api.ErrArg, put(key, strings.Repeat("c", 127-length)))
		expectAll(t, s)
	}
	s := opened(t, newDisk(t, 4))
	expectApply(t, s, api.OK, api.Act{Key: "a"})
	if b, there := s.Get("a"); !there || len(b) != 0 {
		t.Errorf("Get = %q, %t", b, there)
	}
	expectApply(t, s, api.OK, drop("a"))
	expectNone(t, s, "a")
}

// P7.3: a record gets other contents, shorter and longer ones, and goes; what does not exist may be deleted; the contents of a deletion are ignored.
func TestActs(t *testing.T) {
	d := newDisk(t, 12)
	s := opened(t, d)
	expectApply(t, s, api.OK)
	expectApply(t, s, api.OK, drop("a"), put("b", "1"), drop("c"))
	expectAll(t, s, "b", "1")
	for _, n := range []int{2, 120, 0, 30, 31, 29, 61} {
		contents := strings.Repeat("x", n)
		expectApply(t, s, api.OK, put("b", contents), put("a", fmt.Sprint(n)))
		expectAll(t, s, "a", fmt.Sprint(n), "b", contents)
		expectAll(t, opened(t, d), "a", fmt.Sprint(n), "b", contents)
		s = opened(t, d)
	}
	expectApply(t, s, api.OK, api.Act{Key: "a", Drop: true, B: make([]byte, 1000)}, api.Act{Key: "nothing", Drop: true, B: make([]byte, 1000)})
	expectAll(t, s, "b", strings.Repeat("x", 61))
	expectApply(t, s, api.OK, drop("b"))
	expectAll(t, s)
	expectAll(t, opened(t, d))
}

// wrong are batches with ErrArg, of every kind.
func wrong() [][]api.Act {
	good := []api.Act{put("a", "9"), drop("b"), put("c", "9")}
	var l [][]api.Act
	for _, bad := range []api.Act{put("", ""), put("", "1"), put(strings.Repeat("k", 21), ""), put("d", strings.Repeat("c", 126)), put("d", strings.Repeat("c", 100000)),
		drop(""), drop(strings.Repeat("k", 21)), put("a", "9"), put("a", "8"), drop("a"), drop("b"), put("b", "9"), drop("c")} {
		for at := range 4 {
			l = append(l, slices.Insert(slices.Clone(good), at, bad))
		}
	}
	return append(l, []api.Act{drop("nothing"), drop("nothing")}, []api.Act{put("a", "1"), put("a", "1")})
}

// expectUnchanged is that a call, which returned an error other than ErrDead, has changed neither the store nor the disk.
func expectUnchanged(t *testing.T, d *disk.Disk, s *Store, want api.Errno, l []api.Act) {
	t.Helper()
	had, records := d.Writes(), told(s.All())
	expectApply(t, s, want, l...)
	if d.Writes() != had {
		t.Errorf("an Apply with error %d has written", want)
	}
	if told(s.All()) != records || told(opened(t, d.Clone()).All()) != records {
		t.Errorf("an Apply with error %d has changed the records", want)
	}
}

// P7.3: a wrong batch changes nothing, not even by its right acts.
func TestWrongBatches(t *testing.T) {
	d := newDisk(t, 12)
	s := opened(t, d)
	expectApply(t, s, api.OK, put("a", "1"), put("b", "2"))
	for _, l := range wrong() {
		expectUnchanged(t, d, s, api.ErrArg, l)
	}
	expectAll(t, s, "a", "1", "b", "2")
}

// P7.3: 200 acts are allowed, also if they do nothing, and 201 are not.
func TestLongBatches(t *testing.T) {
	d := newDisk(t, 200)
	s := opened(t, d)
	var puts, drops []api.Act
	for i := range 201 {
		key := fmt.Sprintf("%03d", i)
		puts, drops = append(puts, put(key, key)), append(drops, drop(key))
	}
	expectUnchanged(t, d, s, api.ErrLong, puts)
	expectUnchanged(t, d, s, api.ErrLong, drops)
	expectApply(t, s, api.OK, puts[:200]...)
	if len(s.All()) != 200 || len(opened(t, d).All()) != 200 {
		t.Errorf("%d records", len(s.All()))
	}
	expectUnchanged(t, d, s, api.ErrLong, puts)
	expectApply(t, s, api.OK, drops[:200]...)
	expectAll(t, s)
}

// P7.3: ErrFull counts the resulting records: what goes, and what an act replaces, makes room in the same batch.
func TestFull(t *testing.T) {
	d := newDisk(t, 6)
	s := opened(t, d)
	expectUnchanged(t, d, s, api.ErrFull, []api.Act{sized("a", 4, 1), sized("b", 4, 1), put("c", "")})
	expectApply(t, s, api.OK, sized("a", 4, 1), sized("b", 4, 1))
	if s.Used() != 8 || s.Room() != 8 {
		t.Errorf("Used() = %d, Room() = %d", s.Used(), s.Room())
	}
	expectUnchanged(t, d, s, api.ErrFull, []api.Act{put("c", "")})
	expectUnchanged(t, d, s, api.ErrFull, []api.Act{sized("a", 3, 1), sized("c", 2, 1)})
	expectUnchanged(t, d, s, api.ErrFull, []api.Act{drop("a"), sized("c", 4, 1), put("d", "")})
	expectUnchanged(t, d, s, api.ErrFull, []api.Act{drop("c"), put("d", "")})
	expectApply(t, s, api.OK, put("c", ""), sized("a", 3, 1))
	expectApply(t, s, api.OK, sized("d", 4, 1), drop("b"))
	expectApply(t, s, api.OK, sized("e", 4, 2), drop("c"), drop("a"))
	expectApply(t, s, api.OK, sized("d", 4, 3), sized("e", 4, 4))
	if s.Used() != 8 || len(opened(t, d).All()) != 2 {
		t.Errorf("Used() = %d", s.Used())
	}
}

// P7.3: the errors that are named first come first.
func TestWhichErrorIsNamedFirst(t *testing.T) {
	long := make([]api.Act, 201)
	full := []api.Act{sized("x", 4, 1), sized("y", 4, 1), sized("z", 4, 1)}
	fullAndWrong := append(slices.Clone(full), put("x", ""))
	fresh := func() (*disk.Disk, *Store) {
		d := newDisk(t, 6)
		s := opened(t, d)
		expectApply(t, s, api.OK, put("a", "1"))
		return d, s
	}
	d, s := fresh()
	d.Cut(0)
	expectApply(t, s, api.ErrLong, long...)
	expectApply(t, s, api.ErrArg, fullAndWrong...)
	expectApply(t, s, api.ErrFull, full...)
	expectApply(t, s, api.OK)
	expectApply(t, s, api.OK, put("a", "1"), drop("nothing"))
	expectAll(t, s, "a", "1")
	expectApply(t, s, api.ErrDead, put("a", "2"))
	for _, l := range [][]api.Act{long, fullAndWrong, full, nil, {put("a", "1")}, {put("a", "2")}} {
		d, s := fresh()
		fail(d)
		expectApply(t, s, api.ErrDead, l...)
		d.Up()
		expectDead(t, d, s)
	}
}

// R3: what was passed and what was returned may be changed.
func TestNothingIsShared(t *testing.T) {
	d := newDisk(t, 12)
	s := opened(t, d)
	l := []api.Act{put("b", "22"), put("a", "11"), drop("c")}
	expectApply(t, s, api.OK, l...)
	if l[0].Key != "b" || l[1].Key != "a" || l[2].Key != "c" || string(l[0].B) != "22" || string(l[1].B) != "11" {
		t.Errorf("the acts are changed: %v", l)
	}
	l[0].B[0], l[1].B[1] = 'x', 'y'
	expectAll(t, s, "a", "11", "b", "22")
	for _, x := range []*Store{s, opened(t, d)} {
		b, _ := x.Get("a")
		b[0] = 'x'
		_ = append(b, 'x')
		all := x.All()
		for i := range all {
			all[i].B[1] = 'x'
			_ = append(all[i].B, "xxxxxx"...)
		}
		expectAll(t, x, "a", "11", "b", "22")
	}
	s = opened(t, d)
	expectApply(t, s, api.OK, put("a", "33"), put("d", "44"))
	expectAll(t, s, "a", "33", "b", "22", "d", "44")
}

// R1: a nil store has no disk, and so no power and no records.
func TestNilStore(t *testing.T) {
	var s *Store
	expectAll(t, s)
	expectNone(t, s, "a", "")
	if s.Room() != 0 {
		t.Errorf("Room() = %d", s.Room())
	}
	for _, l := range append(wrong(), nil, []api.Act{put("a", "1")}, make([]api.Act, 201)) {
		expectApply(t, s, api.ErrDead, l...)
	}
}
