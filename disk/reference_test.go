package disk

import (
	"fmt"
	"maps"
	"math"
	"math/rand"
	"testing"

	"malthouse/api"
)

// reference is the chapter once more: sectors that were never written do not occur in it, and a failure is scheduled for a write by that one's number.
type reference struct {
	sectors  int
	contents map[int]string
	failure  *int
	off      bool
	writes   int
}

func (r *reference) refused(at int) api.Errno {
	switch {
	case r.off:
		return 6
	case at < 0, at >= r.sectors:
		return 1
	}
	return 0
}

func (r *reference) write(at int, b []byte) api.Errno {
	e := r.refused(at)
	switch {
	case e != 0:
		return e
	case len(b) != 256:
		return 1
	case r.failure != nil && r.writes == *r.failure:
		r.off = true
		return 6
	}
	r.contents[at] = string(b)
	r.writes++
	return 0
}

func (r *reference) read(at int) (string, api.Errno) {
	if e := r.refused(at); e != 0 {
		return "", e
	}
	if s, there := r.contents[at]; there {
		return s, 0
	}
	return string(make([]byte, 256)), 0
}

func (r *reference) cut(after int) {
	r.failure = nil
	if after >= 0 && after <= math.MaxInt-r.writes {
		at := r.writes + after
		r.failure = &at
	}
}

func (r *reference) up() { r.off, r.failure = false, nil }

func (r *reference) clone() *reference {
	c := *r
	c.contents = maps.Clone(r.contents)
	return &c
}

// both is a disk and what it is held against.
type both struct {
	disk *Disk
	want *reference
}

func newBoth(t *testing.T, sectors int) both {
	return both{made(t, sectors), &reference{sectors: sectors, contents: map[int]string{}}}
}

func (x both) clone() both { return both{x.disk.Clone(), x.want.clone()} }

// same holds all that can be asked without a change against the reference.
func (x both) same() error {
	d, r := x.disk, x.want
	if d.Sectors() != r.sectors || d.On() == r.off || d.Writes() != r.writes {
		return fmt.Errorf("%d sectors, on: %t, %d writes, not %d, %t, %d", d.Sectors(), d.On(), d.Writes(), r.sectors, !r.off, r.writes)
	}
	for at := -1; at <= r.sectors; at++ {
		b, e := d.Read(at)
		want, wantE := r.read(at)
		if string(b) != want || e != wantE {
			return fmt.Errorf("Read(%d) = %v, error %d, not %v, %d", at, b, e, []byte(want), wantE)
		}
	}
	return nil
}

// do is one call, told by two bytes.
func (x both) do(kind, arg byte) error {
	switch kind % 8 {
	case 0:
		after := []int{int(arg % 5), int(arg % 5), -int(arg), math.MaxInt}[kind>>3%4]
		x.disk.Cut(after)
		x.want.cut(after)
	case 1:
		x.disk.Up()
		x.want.up()
	default:
		at := int(kind>>3)%(x.want.sectors+2) - 1
		b := counted(arg)
		if arg%8 == 0 {
			b = b[:int(arg)]
		}
		if e, want := x.disk.Write(at, b), x.want.write(at, b); e != want {
			return fmt.Errorf("Write(%d, %d bytes): error %d, not %d", at, len(b), e, want)
		}
		clear(b)
	}
	return nil
}

// script has a call for every three bytes, on one of a disk and its clones, and looks at all of them behind each.
func script(t *testing.T, calls []byte) {
	if len(calls) == 0 || len(calls) > 3000 {
		return
	}
	family := []both{newBoth(t, 1+int(calls[0]%4))}
	for i := 1; i+2 < len(calls); i += 3 {
		x := family[int(calls[i]>>2)%len(family)]
		if calls[i]%4 == 0 && len(family) < 5 {
			family = append(family, x.clone())
		} else if err := x.do(calls[i+1], calls[i+2]); err != nil {
			t.Fatalf("%v: at byte %d: %v", calls, i, err)
		}
		for k, y := range family {
			if err := y.same(); err != nil {
				t.Fatalf("%v: behind byte %d, disk %d: %v", calls, i, k, err)
			}
		}
	}
}

func TestRandomCalls(t *testing.T) {
	random := rand.New(rand.NewSource(1))
	for range 2000 {
		calls := make([]byte, 1+3*random.Intn(60))
		random.Read(calls)
		script(t, calls)
	}
}

func FuzzCalls(f *testing.F) {
	f.Add([]byte{1, 1, 0, 1, 1, 10, 7, 1, 10, 9, 1, 1, 0, 1, 10, 9})
	f.Add([]byte{0, 0, 0, 0, 1, 10, 7, 5, 10, 9})
	f.Fuzz(script)
}
