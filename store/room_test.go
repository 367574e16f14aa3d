package store

import (
	"bytes"
	"fmt"
	"math/rand"
	"testing"

	"malthouse/api"
	"malthouse/disk"
)

// most is how many writes a batch may take of whose acts so many change something.
func most(c int) int {
	if c == 0 {
		return 0
	}
	return 4*c + (c+31)/32 + 2
}

// expectWrites is that a batch of which c acts change something succeeds within its writes.
func expectWrites(t *testing.T, d *disk.Disk, s *Store, c int, l ...api.Act) {
	t.Helper()
	had := d.Writes()
	expectApply(t, s, api.OK, l...)
	if took := d.Writes() - had; took > most(c) || took == 0 && c > 0 {
		t.Errorf("%d changes of %d acts took %d writes, not at most %d", c, len(l), took, most(c))
	}
}

// P7.4: acts that change nothing do not count, and a batch of them writes nothing.
func TestWhichActsCount(t *testing.T) {
	d := newDisk(t, 60)
	s := opened(t, d)
	var puts, drops []api.Act
	for i := range 100 {
		puts, drops = append(puts, put(fmt.Sprint("p", i), "1")), append(drops, drop(fmt.Sprint("d", i)))
	}
	expectWrites(t, d, s, 100, puts...)
	for range 2 {
		expectWrites(t, d, s, 0)
		expectWrites(t, d, s, 0, puts...)
		expectWrites(t, d, s, 0, drops...)
		expectWrites(t, d, s, 0, append(drops, puts...)...)
		s = opened(t, d)
	}
	expectWrites(t, d, s, 0, api.Act{Key: "d0", Drop: true, B: []byte("1")})
	puts[50] = put("p50", "2")
	expectWrites(t, d, s, 1, append(drops, puts...)...)
	drops[50] = drop("p51")
	expectWrites(t, d, s, 1, drops...)
	puts[51] = put("p51", "")
	expectWrites(t, d, s, 1, puts...)
	expectWrites(t, d, s, 1, put("p51", "\x00"))
	expectWrites(t, d, s, 1, put("p51", ""))
	expectWrites(t, d, s, 0, api.Act{Key: "p51"})
}

// P7.4: batches of every size in which each record leaves a page that has become too small for it.
func TestWritesOfRecordsThatGrow(t *testing.T) {
	for c := 1; c <= 200; c++ {
		d := newDisk(t, 2048)
		s := opened(t, d)
		for from := 0; from < 1400; from += 200 {
			var small []api.Act
			for i := from; i < from+200; i++ {
				small = append(small, put(fmt.Sprintf("%04d", i), "1"))
			}
			expectWrites(t, d, s, 200, small...)
		}
		var great []api.Act
		for i := range c {
			great = append(great, sized(fmt.Sprintf("%04d", 7*i), 4, 9))
		}
		expectWrites(t, d, s, c, great...)
		var gone []api.Act
		for i := range c {
			gone = append(gone, drop(fmt.Sprintf("%04d", 7*i+1)))
		}
		expectWrites(t, d, s, c, gone...)
		if c%50 == 0 && told(s.All()) != told(opened(t, d).All()) {
			t.Errorf("the disk has other records")
		}
	}
}

// P7.6: whatever is left of a store, all of its Room can be used. Each time some records go, of all places, and others fill what is free, to the last slot.
func TestAllRoomCanBeUsed(t *testing.T) {
	random := rand.New(rand.NewSource(1))
	for _, sectors := range []int{4, 6, 8, 12, 20, 60} {
		d := newDisk(t, sectors)
		s := opened(t, d)
		next := 0
		for range 200 {
			var l []api.Act
			for _, r := range s.All() {
				switch random.Intn(4) {
				case 0:
					l = append(l, drop(r.Key))
				case 1:
					l = append(l, sized(r.Key, 1, byte(next)))
				}
			}
			l = l[:min(len(l), 200)]
			expectWrites(t, d, s, changes(s, l), l...)
			sizes := [][]int{{4}, {3}, {2}, {1}, {4, 1}, {3, 2, 4, 1}}[random.Intn(6)]
			for s.Used() < s.Room() {
				n := min(sizes[next%len(sizes)], s.Room()-s.Used())
				expectUnchanged(t, d, s, api.ErrFull, tooMuch(s, fmt.Sprint("n", next)))
				expectWrites(t, d, s, 1, sized(fmt.Sprint("n", next), n, byte(next)))
				next++
			}
			if s.Used() != s.Room() {
				t.Fatalf("Used() = %d, not %d", s.Used(), s.Room())
			}
		}
	}
}

// P7.6: records of one size fill the store, then shrink or grow one by one, and then records of another size fill what is free: pages of every use, none of them with a slot to spare.
func TestRecordsOfOneSize(t *testing.T) {
	for n := range 4 * 4 * 4 * 4 {
		sectors, size, next, last := 12+n/64*8, 1+n/16%4, 1+n/4%4, 1+n%4
		d := newDisk(t, sectors)
		s := opened(t, d)
		for i := 0; s.Used()+size <= s.Room(); i++ {
			expectWrites(t, d, s, 1, sized(fmt.Sprint("a", i), size, 1))
		}
		for _, r := range s.All() {
			if s.Used()+next-size <= s.Room() {
				expectWrites(t, d, s, 1, sized(r.Key, next, 2))
			}
		}
		for i := 0; s.Used()+last <= s.Room(); i++ {
			expectWrites(t, d, s, 1, sized(fmt.Sprint("b", i), last, 3))
		}
		if told(opened(t, d).All()) != told(s.All()) {
			t.Errorf("the disk has other records")
		}
	}
}

// changes is how many acts change something.
func changes(s *Store, l []api.Act) int {
	c := 0
	for _, a := range l {
		b, there := s.Get(a.Key)
		if a.Drop && there || !a.Drop && !(there && bytes.Equal(b, a.B)) {
			c++
		}
	}
	return c
}

// tooMuch is a batch of new records with one slot more than are left.
func tooMuch(s *Store, key string) []api.Act {
	var l []api.Act
	for left := s.Room() - s.Used() + 1; left > 0; left -= 4 {
		l = append(l, sized(fmt.Sprint(key, left), min(left, 4), 1))
	}
	return l
}

// P7.6: whatever the order of the acts, the records and the writes are the same, and even the disk.
func TestTheOrderOfActsDoesNotMatter(t *testing.T) {
	random := rand.New(rand.NewSource(2))
	for round := range 300 {
		first := newDisk(t, 12)
		s := opened(t, first)
		fill(s, random)
		var l []api.Act
		for i := range random.Intn(8) {
			key := string(rune('a' + i))
			if random.Intn(3) == 0 {
				l = append(l, drop(key))
			} else {
				l = append(l, sized(key, 1+random.Intn(4), byte(round)))
			}
		}
		var want string
		var wantE api.Errno
		for i := range 6 {
			d := first.Clone()
			x := opened(t, d)
			e := x.Apply(l)
			now := told(x.All()) + sectors(d) + fmt.Sprint(d.Writes())
			if i > 0 && (now != want || e != wantE) {
				t.Fatalf("another order: error %d, not %d, or other records", e, wantE)
			}
			want, wantE = now, e
			random.Shuffle(len(l), func(i, k int) { l[i], l[k] = l[k], l[i] })
		}
	}
}

// fill stores records of the keys a to h.
func fill(s *Store, random *rand.Rand) {
	for i := range 8 {
		if random.Intn(3) > 0 {
			s.Apply([]api.Act{sized(string(rune('a'+i)), 1+random.Intn(4), 200)})
		}
	}
}

// sectors is all that a disk contains.
func sectors(d *disk.Disk) string {
	var all []byte
	for at := range d.Sectors() {
		b, _ := d.Read(at)
		all = append(all, b...)
	}
	return string(all)
}

// R5: two disks with the same calls are the same, however a map is gone through.
func TestTheSameCallsLeaveTheSameDisk(t *testing.T) {
	var want string
	for i := range 20 {
		d := newDisk(t, 30)
		s := opened(t, d)
		random := rand.New(rand.NewSource(3))
		for range 60 {
			var l []api.Act
			for k := range 10 {
				key := fmt.Sprint(k, random.Intn(3))
				if random.Intn(3) == 0 {
					l = append(l, drop(key))
				} else {
					l = append(l, sized(key, 1+random.Intn(4), byte(k)))
				}
			}
			s.Apply(l)
		}
		if i > 0 && sectors(d) != want {
			t.Fatalf("another disk")
		}
		want = sectors(d)
	}
}
