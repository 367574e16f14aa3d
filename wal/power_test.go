package wal

import (
	"testing"

	"malthouse/api"
	"malthouse/disk"
)

// before is a log in use, whose data sectors all have contents, and of whose earlier groups something is left elsewhere on the disk.
func before(t testing.TB, sectors int) (*disk.Disk, *Log) {
	t.Helper()
	d := newDisk(t, sectors)
	l := opened(t, d)
	for _, n := range []int{l.Sectors(), 1, (l.Sectors() + 1) / 2} {
		if e := l.Commit(group(l.Sectors(), n, n, byte(7*n))); e != api.OK {
			t.Fatalf("Commit: error %d", e)
		}
	}
	return d, l
}

// interrupt lets the power fail in so many writes from now on, and calls. It tells whether the power has failed.
func interrupt(d *disk.Disk, after int, call func()) bool {
	d.Cut(after)
	call()
	failed := !d.On()
	d.Up()
	return failed
}

// expectStable is that the next two Opens find the same contents, the second without a write, and it returns them.
func expectStable(t *testing.T, d *disk.Disk) string {
	t.Helper()
	found := contents(t, opened(t, d))
	had := d.Writes()
	d.Cut(0)
	again := contents(t, opened(t, d))
	if again != found {
		t.Errorf("the Open after an Open finds other contents")
	}
	if d.Writes() != had || !d.On() {
		t.Errorf("the Open after an Open has written")
	}
	d.Up()
	return found
}

// P5.4: wherever the power fails in Commit, all of the group is found, or nothing; a Commit that returned OK is found.
func TestAFailureInCommit(t *testing.T) {
	for _, x := range []struct{ sectors, n int }{{4, 1}, {8, 1}, {8, 2}, {8, 3}, {20, 5}, {129, 63}, {130, 64}, {133, 65}, {300, 65}, {300, 128}, {300, 129}} {
		if x.n > Room(x.sectors) {
			t.Fatalf("no room for %d on %d sectors", x.n, x.sectors)
		}
		first, _ := before(t, x.sectors)
		old := contents(t, opened(t, first))
		g := group(Room(x.sectors), 3, x.n, 100)
		oldSeen, newSeen := false, false
		for after := 0; ; after++ {
			d := first.Clone()
			l := opened(t, d)
			var e api.Errno
			failed := interrupt(d, after, func() { e = l.Commit(g) })
			if failed != (e == api.ErrDead) || e != api.OK && e != api.ErrDead {
				t.Fatalf("%v, failure after %d writes: error %d", x, after, e)
			}
			found := expectStable(t, d)
			if found != changed(old, g) && (found != old || !failed) {
				t.Fatalf("%v, failure after %d writes (error %d): neither the old contents nor the new ones", x, after, e)
			}
			if !failed {
				break
			}
			oldSeen, newSeen = oldSeen || found == old, newSeen || found != old
		}
		if !oldSeen || !newSeen {
			t.Errorf("%v: old contents: %t, new contents: %t: the failures did not come where they matter", x, oldSeen, newSeen)
		}
	}
}

// opensFailing lets the power fail at every write of an Open, and again in the Opens that follow, so deep; each time the contents must be one of the two.
func opensFailing(t *testing.T, d *disk.Disk, old, new string, deep int) {
	t.Helper()
	if found := expectStable(t, d.Clone()); found != old && found != new {
		t.Fatalf("neither the old contents nor the new ones")
	}
	if deep == 0 {
		return
	}
	for after := 0; ; after++ {
		c := d.Clone()
		var e api.Errno
		var l *Log
		if !interrupt(c, after, func() { l, e = Open(c) }) {
			break
		}
		if l != nil || e != api.ErrDead {
			t.Fatalf("an Open in which the power failed: %v, error %d", l, e)
		}
		opensFailing(t, c, old, new, deep-1)
	}
}

// P5.4: the power fails in Commit, then in Open, and in the Opens after that.
func TestFailuresInOpen(t *testing.T) {
	for _, x := range []struct{ sectors, n, deep int }{{4, 1, 3}, {8, 1, 3}, {8, 2, 3}, {8, 3, 3}, {14, 5, 2}, {133, 65, 1}} {
		first, _ := before(t, x.sectors)
		old := contents(t, opened(t, first))
		g := group(Room(x.sectors), 1, x.n, 100)
		for after := 0; ; after++ {
			d := first.Clone()
			l := opened(t, d)
			if !interrupt(d, after, func() { l.Commit(g) }) {
				break
			}
			opensFailing(t, d, old, changed(old, g), x.deep)
		}
	}
}

// P5.4: a failure leaves nothing behind that a later group, a smaller or a greater one, would bring up again.
func TestAFailureBehindAFailure(t *testing.T) {
	sizes := []int{1, 2, 3, 5}
	for _, n := range sizes {
		for _, m := range sizes {
			first, _ := before(t, 12)
			for one := 0; one <= most(n); one++ {
				c := first.Clone()
				l := opened(t, c)
				interrupt(c, one, func() { l.Commit(group(5, 2, n, 50)) })
				old := expectStable(t, c)
				g := group(5, 4, m, 150)
				for two := 0; two <= most(m); two++ {
					d := c.Clone()
					k := opened(t, d)
					failed := interrupt(d, two, func() { k.Commit(g) })
					if found := expectStable(t, d); found != changed(old, g) && (found != old || !failed) {
						t.Fatalf("groups of %d and %d, failures after %d and %d writes: other contents", n, m, one, two)
					}
				}
			}
		}
	}
}

// expectDead is that a log answers nothing but ErrDead, whatever it is asked, and writes nothing.
func expectDead(t *testing.T, d *disk.Disk, l *Log) {
	t.Helper()
	had := d.Writes()
	for _, at := range []int{-1, 0, 1, 3, 1 << 40} {
		expectNoRead(t, l, at, api.ErrDead)
	}
	expectCommit(t, l, nil, api.ErrDead)
	for _, g := range append(wrong(), group(3, 0, 1, 1), group(3, 0, 3, 1)) {
		expectCommit(t, l, g, api.ErrDead)
	}
	if d.Writes() != had {
		t.Errorf("a dead log has written")
	}
	if l.Sectors() != 3 {
		t.Errorf("a dead log has %d sectors", l.Sectors())
	}
}

// P5.3: after a Commit that returned ErrDead, wherever the power has failed in it, the log stays dead, also when the power is on and another log is open.
func TestADeadLog(t *testing.T) {
	for after := range most(2) {
		d, l := before(t, 8)
		d.Cut(after)
		expectCommit(t, l, group(3, 0, 2, 9), api.ErrDead)
		expectDead(t, d, l)
		d.Up()
		expectDead(t, d, l)
		m := opened(t, d)
		expectDead(t, d, l)
		want := contents(t, m)
		expectCommit(t, m, group(3, 1, 1, 11), api.OK)
		if contents(t, m) != changed(want, group(3, 1, 1, 11)) {
			t.Errorf("other contents")
		}
	}
}

// P5.3: any call that returned ErrDead makes a log dead; a failure that no call has met does not.
func TestWhichCallsMakeALogDead(t *testing.T) {
	calls := map[string]func(l *Log) api.Errno{
		"Read":            func(l *Log) api.Errno { _, e := l.Read(0); return e },
		"a wrong Read":    func(l *Log) api.Errno { _, e := l.Read(-1); return e },
		"Commit":          func(l *Log) api.Errno { return l.Commit(group(3, 0, 2, 1)) },
		"an empty Commit": func(l *Log) api.Errno { return l.Commit(nil) },
		"a wrong Commit":  func(l *Log) api.Errno { return l.Commit(make([]api.Write, 1)) },
	}
	for name, call := range calls {
		d, l := before(t, 8)
		fail(d)
		if e := call(l); e != api.ErrDead {
			t.Errorf("%s without power: error %d", name, e)
		}
		d.Up()
		expectDead(t, d, l)
	}
	d, l := before(t, 8)
	want := contents(t, l)
	fail(d)
	if l.Sectors() != 3 {
		t.Errorf("without power there are %d sectors", l.Sectors())
	}
	d.Up()
	if contents(t, l) != want {
		t.Errorf("other contents behind a failure that no call has met")
	}
	expectCommit(t, l, group(3, 0, 2, 1), api.OK)
}

// P5.3: ErrDead for the power that is off is named ahead of ErrArg, and ErrArg ahead of the power that would fail in Commit.
func TestWhichErrorIsNamedFirst(t *testing.T) {
	for _, g := range wrong() {
		d, l := before(t, 8)
		d.Cut(0)
		expectCommit(t, l, g, api.ErrArg)
		expectNoRead(t, l, 3, api.ErrArg)
		fail(d)
		expectCommit(t, l, g, api.ErrDead)
		expectNoRead(t, l, 3, api.ErrDead)
	}
}

// P5.2: a disk that no log has written: no call panics, and Open returns a log or ErrForm.
func TestForeignDisks(t *testing.T) {
	disks := map[string]func(at, i int) byte{
		"ones":                            func(at, i int) byte { return 1 },
		"255":                             func(at, i int) byte { return 255 },
		"counted":                         func(at, i int) byte { return byte(i) },
		"places":                          func(at, i int) byte { return byte(at) },
		"mixed":                           func(at, i int) byte { return byte(7*at*i + at + 3) },
		"one at the start of each sector": func(at, i int) byte { return byte(1 / (i + 1)) },
		"two at the start of each sector": func(at, i int) byte { return byte(1/(i+1)) * 2 },
		"a byte at the end of each":       func(at, i int) byte { return byte(i / 255) },
	}
	for name, f := range disks {
		for _, sectors := range []int{4, 5, 8, 133} {
			for _, some := range []int{1, 2, sectors} {
				d := newDisk(t, sectors)
				for at := range some {
					b := make([]byte, 256)
					for i := range b {
						b[i] = f(at, i)
					}
					d.Write(at, b)
				}
				expectSomeLogOrNone(t, name, d)
			}
		}
	}
}

func expectSomeLogOrNone(t *testing.T, name string, d *disk.Disk) {
	t.Helper()
	l, e := Open(d)
	if l == nil && e != api.ErrForm || l != nil && e != api.OK {
		t.Errorf("%s on %d sectors: Open = %v, error %d", name, d.Sectors(), l, e)
	}
	if l != nil {
		contents(t, l)
		expectCommit(t, l, group(l.Sectors(), 0, 1, 1), api.OK)
	}
}

// Every single byte of a log's disk, with a group pending or not, may be another one: no call panics.
func TestSpoiltDisks(t *testing.T) {
	for after := range most(2) + 1 {
		first, l := before(t, 8)
		interrupt(first, after, func() { l.Commit(group(3, 1, 2, 50)) })
		for at := range 8 {
			for i := range 256 {
				for _, x := range []byte{1, 2, 128, 255} {
					d := first.Clone()
					b, _ := d.Read(at)
					b[i] ^= x
					d.Write(at, b)
					expectSomeLogOrNone(t, "a spoilt byte", d)
				}
			}
		}
	}
}
