package store

import (
	"fmt"
	"testing"

	"malthouse/api"
	"malthouse/disk"
)

// before is a store in use: records of all sizes, and what earlier ones have left of the disk.
func before(t testing.TB, sectors int) (*disk.Disk, *Store) {
	t.Helper()
	d := newDisk(t, sectors)
	s := opened(t, d)
	for i, slots := range []int{4, 1, 3, 2, 1, 1, 2} {
		if e := s.Apply([]api.Act{sized(fmt.Sprint("r", i), slots, byte(i)), put("last", fmt.Sprint(i))}); e != api.OK {
			t.Fatalf("Apply: error %d", e)
		}
	}
	if e := s.Apply([]api.Act{drop("r1"), sized("r4", 3, 40)}); e != api.OK {
		t.Fatalf("Apply: error %d", e)
	}
	return d, s
}

// batches are some for a store that before has left.
func batches() map[string][]api.Act {
	return map[string][]api.Act{
		"one new":       {put("new", "1")},
		"one other":     {put("last", "x")},
		"one gone":      {drop("r2")},
		"one grows":     {sized("last", 4, 9)},
		"all at once":   {drop("r0"), sized("r2", 1, 8), sized("r3", 4, 7), put("last", ""), put("new", "1"), sized("r6", 2, 3), drop("none"), sized("r5", 1, 5)},
		"all go":        {drop("r0"), drop("r2"), drop("r3"), drop("r4"), drop("r5"), drop("r6"), drop("last")},
		"all are moved": {sized("r0", 1, 1), sized("r2", 2, 1), sized("r3", 3, 1), sized("r4", 2, 1), sized("r5", 4, 1), sized("r6", 1, 1)},
	}
}

// expectDead is that a store has no records, answers nothing but ErrDead, and writes nothing.
func expectDead(t *testing.T, d *disk.Disk, s *Store) {
	t.Helper()
	had := d.Writes()
	for range 2 {
		expectAll(t, s)
		expectNone(t, s, "a", "b", "last", "r0", "")
		for _, l := range append(wrong(), nil, []api.Act{put("a", "1")}, []api.Act{drop("a")}, make([]api.Act, 201)) {
			expectApply(t, s, api.ErrDead, l...)
		}
	}
	if d.Writes() != had {
		t.Errorf("a dead store has written")
	}
	if want := 4 * ((d.Sectors() - 2) / 2); s.Room() != want {
		t.Errorf("a dead store has Room() = %d, not %d", s.Room(), want)
	}
}

// P7.5: wherever the power fails in Apply, and in the Opens after it, all of the batch is found or nothing of it; P7.2 and P7.3: the store is dead from then on.
func TestFailures(t *testing.T) {
	for name, l := range batches() {
		first, s := before(t, 20)
		old := told(s.All())
		expectApply(t, s, api.OK, l...)
		new := told(s.All())
		first, _ = before(t, 20)
		oldSeen, newSeen := false, false
		for after := 0; ; after++ {
			d := first.Clone()
			s := opened(t, d)
			d.Cut(after)
			e := s.Apply(l)
			if d.On() {
				if e != api.OK || told(s.All()) != new {
					t.Errorf("%s: error %d, or other records", name, e)
				}
				d.Up()
				if told(opened(t, d).All()) != new {
					t.Errorf("%s: a store that is opened again has other records", name)
				}
				break
			}
			if e != api.ErrDead {
				t.Fatalf("%s: the power failed after %d writes: error %d", name, after, e)
			}
			expectDead(t, d, s)
			d.Up()
			expectDead(t, d, s)
			found := opensFailing(t, d, old, new, 2)
			expectDead(t, d, s)
			oldSeen, newSeen = oldSeen || found == old, newSeen || found == new
		}
		if !oldSeen || !newSeen {
			t.Errorf("%s: old records: %t, new records: %t: the failures did not come where they matter", name, oldSeen, newSeen)
		}
	}
}

// opensFailing lets the power fail at every write of an Open, and again in those that follow, so deep. It returns the records that are found, which are the same behind all of them.
func opensFailing(t *testing.T, d *disk.Disk, old, new string, deep int) string {
	t.Helper()
	c := d.Clone()
	found := told(opened(t, c).All())
	if found != old && found != new {
		t.Fatalf("neither the old records nor the new ones: %s", found)
	}
	if told(opened(t, c).All()) != found {
		t.Fatalf("other records at the next Open")
	}
	for after := 0; deep > 0; after++ {
		c := d.Clone()
		c.Cut(after)
		s, e := Open(c)
		if c.On() {
			break
		}
		if s != nil || e != api.ErrDead {
			t.Fatalf("an Open in which the power failed: %v, error %d", s, e)
		}
		c.Up()
		if opensFailing(t, c, old, new, deep-1) != found {
			t.Fatalf("other records behind an Open in which the power failed")
		}
	}
	return found
}

// P7.2 and P7.3: a failure that no Apply has met does not matter; the records can be read meanwhile.
func TestAFailureBetweenCalls(t *testing.T) {
	d := newDisk(t, 12)
	s := opened(t, d)
	expectApply(t, s, api.OK, put("a", "1"), put("b", "2"))
	fail(d)
	expectAll(t, s, "a", "1", "b", "2")
	expectNone(t, s, "c")
	if s.Room() != 20 {
		t.Errorf("Room() = %d", s.Room())
	}
	d.Up()
	expectAll(t, s, "a", "1", "b", "2")
	expectApply(t, s, api.OK, put("a", "3"), drop("b"))
	expectAll(t, s, "a", "3")
	expectAll(t, opened(t, d), "a", "3")
}

// P7.3: an error other than ErrDead does not make a store dead.
func TestOtherErrorsDoNotMatter(t *testing.T) {
	d := newDisk(t, 6)
	s := opened(t, d)
	for _, l := range append(wrong(), make([]api.Act, 201), []api.Act{sized("a", 4, 1), sized("b", 4, 1), sized("c", 1, 1)}) {
		if e := s.Apply(l); e == api.OK || e == api.ErrDead {
			t.Errorf("error %d", e)
		}
		expectApply(t, s, api.OK, put("a", "1"))
		expectApply(t, s, api.OK, put("a", "2"))
		expectAll(t, s, "a", "2")
	}
}

// P7.5: a failure behind a failure: what the first one has left is not found any more behind the second one.
func TestAFailureBehindAFailure(t *testing.T) {
	first, _ := before(t, 16)
	one := []api.Act{drop("r0"), sized("r2", 4, 8), put("last", "one")}
	two := []api.Act{sized("r3", 4, 7), put("last", "two"), put("new", "2")}
	for i := range most(3) + 1 {
		c := first.Clone()
		c.Cut(i)
		opened(t, c).Apply(one)
		c.Up()
		s := opened(t, c)
		old := told(s.All())
		done := c.Clone()
		s = opened(t, done)
		expectApply(t, s, api.OK, two...)
		new := told(s.All())
		for k := range most(3) + 1 {
			d := c.Clone()
			d.Cut(k)
			e := opened(t, d).Apply(two)
			d.Up()
			if found := opensFailing(t, d, old, new, 1); e == api.OK && found != new {
				t.Errorf("what returned OK is not found")
			}
		}
	}
}
