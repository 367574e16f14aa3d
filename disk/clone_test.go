package disk

import (
	"testing"

	"malthouse/api"
)

// P4.4: a clone has the contents, the power, the scheduled failure and the number of writes.
func TestCloneHasTheSameState(t *testing.T) {
	for done := range 4 {
		for after := -1; after < 4; after++ {
			d := made(t, 3)
			for i := range done {
				expectWrite(t, d, i%2+1, counted(byte(i+1)), api.OK)
			}
			d.Cut(after)
			c := d.Clone()
			if c == d || c.Sectors() != 3 {
				t.Fatalf("Clone() = %v of %v", c, d)
			}
			expectState(t, c, true, done)
			for at := range 3 {
				b, _ := d.Read(at)
				expectRead(t, c, at, b)
			}
			expectLife(t, c, after)
			expectState(t, d, true, done)
			expectLife(t, d, after)
		}
	}
}

// P4.4: what is left of a schedule is cloned, not what it was at first.
func TestCloneAmidASchedule(t *testing.T) {
	d := made(t, 1)
	d.Cut(5)
	for left := 5; left >= 0; left-- {
		expectLife(t, d.Clone(), left)
		if left > 0 {
			expectWrite(t, d, 0, full(1), api.OK)
		}
	}
	expectState(t, d, true, 5)
}

func TestCloneWithoutPower(t *testing.T) {
	d := dead(t)
	c := d.Clone()
	expectState(t, c, false, 1)
	expectNoRead(t, c, 1, api.ErrDead)
	expectWrite(t, c, 1, full(1), api.ErrDead)
	c.Up()
	expectState(t, d, false, 1)
	expectNoRead(t, d, 1, api.ErrDead)
	expectRead(t, c, 1, counted(6))
	expectLife(t, c, -1)

	c = d.Clone()
	d.Up()
	expectState(t, c, false, 1)
	expectNoRead(t, c, 1, api.ErrDead)
	expectRead(t, d, 1, counted(6))
}

// P4.5: writes, schedules and Up on one of a disk and its clones, and on a clone of a clone, do not affect the others.
func TestClonesAreIndependent(t *testing.T) {
	d := made(t, 2)
	expectWrite(t, d, 0, counted(1), api.OK)
	disks := []*Disk{d, d.Clone(), d.Clone(), d.Clone().Clone()}
	for i, x := range disks {
		expectWrite(t, x, 1, full(byte(10+i)), api.OK)
		for range i {
			expectWrite(t, x, 0, counted(byte(20+i)), api.OK)
		}
		x.Cut(i)
	}
	for i, x := range disks {
		expectState(t, x, true, 2+i)
		expectRead(t, x, 1, full(byte(10+i)))
		if i == 0 {
			expectRead(t, x, 0, counted(1))
		} else {
			expectRead(t, x, 0, counted(byte(20+i)))
		}
	}
	disks[3].Up()
	for i, x := range disks[:3] {
		expectLife(t, x, i)
	}
	expectLife(t, disks[3], -1)
}
