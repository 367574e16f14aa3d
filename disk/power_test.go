package disk

import (
	"math"
	"testing"

	"malthouse/api"
)

// expectLife is that so many writes succeed, and that the power fails at the next one and stays off. A negative life has no end.
func expectLife(t *testing.T, d *Disk, life int) {
	t.Helper()
	endless := life < 0
	if endless {
		life = 50
	}
	had := d.Writes()
	for i := range life {
		expectWrite(t, d, 0, full(byte(i+1)), api.OK)
		expectState(t, d, true, had+i+1)
	}
	if endless {
		return
	}
	b, _ := d.Read(0)
	expectWrite(t, d, 0, full(99), api.ErrDead)
	expectState(t, d, false, had+life)
	expectWrite(t, d, 0, full(99), api.ErrDead)
	expectNoRead(t, d, 0, api.ErrDead)
	expectState(t, d, false, had+life)
	d.Up()
	expectRead(t, d, 0, b)
}

// P4.3: so many writes succeed, then the power fails; when it is on again, no failure is scheduled.
func TestCut(t *testing.T) {
	for after := range 20 {
		d := made(t, 2)
		d.Cut(after)
		expectState(t, d, true, 0)
		expectLife(t, d, after)
		expectState(t, d, true, after)
		expectLife(t, d, -1)
	}
}

func TestACutThatIsFarOff(t *testing.T) {
	for _, after := range []int{51, 1 << 32, math.MaxInt} {
		d := made(t, 1)
		d.Cut(after)
		expectLife(t, d, -1)
	}
}

// P4.3: a negative number schedules no failure, and cancels one that was scheduled.
func TestANegativeCut(t *testing.T) {
	for _, after := range []int{-1, -2, math.MinInt} {
		d := made(t, 1)
		d.Cut(after)
		expectLife(t, d, -1)
		d.Cut(0)
		d.Cut(after)
		expectLife(t, d, -1)
	}
}

// P4.3: a later call replaces an earlier schedule, whichever of them is sooner, also when some writes are done.
func TestALaterCut(t *testing.T) {
	for first := range 6 {
		for done := range first + 1 {
			for second := -1; second < 6; second++ {
				d := made(t, 1)
				d.Cut(first)
				for range done {
					expectWrite(t, d, 0, full(1), api.OK)
				}
				d.Cut(second)
				expectLife(t, d, second)
			}
		}
	}
}

// P4.3: a write that is refused, and a read, are not counted, and do not let the power fail.
func TestOnlyAWriteThatWouldSucceedIsCounted(t *testing.T) {
	for after := range 3 {
		d := made(t, 2)
		d.Cut(after)
		for i := range after + 1 {
			for range 4 {
				expectWrite(t, d, 2, full(1), api.ErrArg)
				expectWrite(t, d, -1, full(1), api.ErrArg)
				expectWrite(t, d, 0, full(1)[1:], api.ErrArg)
				expectWrite(t, d, 0, nil, api.ErrArg)
				expectNoRead(t, d, 2, api.ErrArg)
				expectRead(t, d, 1, full(0))
				expectState(t, d, true, i)
			}
			if i < after {
				expectWrite(t, d, 0, full(2), api.OK)
			}
		}
		expectLife(t, d, 0)
	}
}

// P4.3: Up cancels a failure also while the power is on, and nothing else changes.
func TestUp(t *testing.T) {
	d := made(t, 2)
	d.Up()
	expectLife(t, d, -1)
	d.Cut(0)
	d.Up()
	expectRead(t, d, 0, full(50))
	expectState(t, d, true, 50)
	expectLife(t, d, -1)
	d.Cut(2)
	expectWrite(t, d, 1, counted(4), api.OK)
	d.Up()
	expectRead(t, d, 1, counted(4))
	expectLife(t, d, -1)
	expectState(t, d, true, 151)
}

func dead(t *testing.T) *Disk {
	t.Helper()
	d := made(t, 2)
	expectWrite(t, d, 1, counted(6), api.OK)
	d.Cut(0)
	expectWrite(t, d, 1, full(1), api.ErrDead)
	return d
}

// P4.2: ErrDead is named ahead of ErrArg while the power is off, and ErrArg ahead of the failure of the power at this write.
func TestWhichErrorIsNamedFirst(t *testing.T) {
	d := dead(t)
	expectWrite(t, d, 2, full(1), api.ErrDead)
	expectWrite(t, d, 0, nil, api.ErrDead)
	expectWrite(t, d, -1, nil, api.ErrDead)
	expectNoRead(t, d, 2, api.ErrDead)
	expectNoRead(t, d, -1, api.ErrDead)

	d = made(t, 2)
	d.Cut(0)
	expectWrite(t, d, 2, full(1), api.ErrArg)
	expectWrite(t, d, 1, full(1)[2:], api.ErrArg)
	expectState(t, d, true, 0)
	expectWrite(t, d, 1, full(1), api.ErrDead)
	expectState(t, d, false, 0)
}

// P4.3: while the power is off, it stays off whatever is scheduled, and Up cancels that.
func TestACutWithoutPower(t *testing.T) {
	for _, after := range []int{-1, 0, 1, 5, math.MaxInt, math.MinInt} {
		d := dead(t)
		d.Cut(after)
		expectState(t, d, false, 1)
		expectWrite(t, d, 1, full(1), api.ErrDead)
		expectNoRead(t, d, 1, api.ErrDead)
		if d.Sectors() != 2 {
			t.Errorf("a disk without power has %d sectors", d.Sectors())
		}
		d.Up()
		expectState(t, d, true, 1)
		expectRead(t, d, 1, counted(6))
		expectRead(t, d, 0, full(0))
		expectLife(t, d, -1)
	}
}

// P4.3 and P4.4: a failure follows a failure as it follows New; the writes of all lives are counted together.
func TestFailureBehindFailure(t *testing.T) {
	d := made(t, 1)
	writes := 0
	for _, after := range []int{3, 0, 0, 1, 7} {
		d.Cut(after)
		expectLife(t, d, after)
		writes += after
		expectState(t, d, true, writes)
	}
}
