package wal

import (
	"fmt"
	"math/rand"
	"testing"

	"malthouse/api"
	"malthouse/disk"
)

// reference is the chapter once more, without a log: what the data sectors hold, and what else they may hold since a Commit has returned ErrDead.
type reference struct {
	room  int
	sure  map[int]string
	maybe map[int]string // nil: nothing else
	dead  bool
}

func (r *reference) at(m map[int]string, at int) string {
	if s, there := m[at]; there {
		return s
	}
	return string(make([]byte, 256))
}

func (r *reference) wrong(g []api.Write) bool {
	for i, w := range g {
		if w.At < 0 || w.At >= r.room || len(w.B) != 256 {
			return true
		}
		for _, v := range g[:i] {
			if v.At == w.At {
				return true
			}
		}
	}
	return false
}

func (r *reference) with(g []api.Write) map[int]string {
	m := map[int]string{}
	for at := range r.room {
		m[at] = r.at(r.sure, at)
	}
	for _, w := range g {
		m[w.At] = string(w.B)
	}
	return m
}

// run is a disk, the log on it that was opened last (nil: the Open failed), and what it is held against.
type run struct {
	disk *disk.Disk
	log  *Log
	want *reference
}

func (x *run) commit(g []api.Write) error {
	if x.log == nil {
		return nil
	}
	had, was := x.disk.Writes(), x.disk.On()
	e := x.log.Commit(g)
	took := x.disk.Writes() - had
	r := x.want
	switch {
	case r.dead || !was:
		r.dead = true
		if e != 6 || took != 0 {
			return fmt.Errorf("a dead log: error %d, %d writes", e, took)
		}
	case r.wrong(g):
		if e != 1 || took != 0 {
			return fmt.Errorf("a wrong group: error %d, %d writes", e, took)
		}
	case x.disk.On():
		r.sure = r.with(g)
		if e != 0 || took > most(len(g)) {
			return fmt.Errorf("a group of %d: error %d, %d writes", len(g), e, took)
		}
	default:
		r.maybe, r.dead = r.with(g), true
		if e != 6 || took >= most(len(g)) {
			return fmt.Errorf("a group of %d, and the power failed: error %d, %d writes", len(g), e, took)
		}
	}
	return nil
}

func (x *run) open() error {
	was := x.disk.On()
	l, e := Open(x.disk)
	x.log = l
	if !was || !x.disk.On() {
		if l != nil || e != 6 {
			return fmt.Errorf("Open without power = %v, error %d", l, e)
		}
		return nil
	}
	if l == nil || e != 0 {
		return fmt.Errorf("Open = %v, error %d", l, e)
	}
	x.want.dead = false
	return x.settle()
}

// settle finds out which of two contents there are.
func (x *run) settle() error {
	r := x.want
	if r.maybe != nil {
		for at := range r.room {
			b, _ := x.log.Read(at)
			if string(b) != r.at(r.sure, at) {
				r.sure = r.maybe
				break
			}
		}
		r.maybe = nil
	}
	had := x.disk.Writes()
	l, e := Open(x.disk)
	if l == nil || e != 0 || x.disk.Writes() != had {
		return fmt.Errorf("Open after an Open = %v, error %d, %d writes", l, e, x.disk.Writes()-had)
	}
	x.log = l
	return x.same()
}

// same holds each Read against the reference.
func (x *run) same() error {
	if x.log == nil {
		return nil
	}
	r := x.want
	if x.log.Sectors() != r.room {
		return fmt.Errorf("Sectors() = %d, not %d", x.log.Sectors(), r.room)
	}
	r.dead = r.dead || !x.disk.On()
	for at := -1; at <= r.room; at++ {
		var want string
		var wantE api.Errno
		switch {
		case r.dead:
			wantE = 6
		case at < 0, at == r.room:
			wantE = 1
		default:
			want = r.at(r.sure, at)
		}
		if b, e := x.log.Read(at); string(b) != want || e != wantE {
			return fmt.Errorf("Read(%d) = %v, error %d, not %v, error %d", at, b, e, []byte(want), wantE)
		}
	}
	return nil
}

// do is one call, told by three bytes.
func (x *run) do(kind, a, b byte) error {
	switch kind % 8 {
	case 0, 1:
		x.disk.Cut(int(a) % (2*x.want.room + 6))
	case 2:
		x.disk.Up()
	case 3:
		return x.open()
	case 4:
		x.disk.Up()
		return x.open()
	default:
		g := group(x.want.room, int(a), int(b)%(x.want.room+1), a^b)
		if len(g) > 0 && kind%16 > 13 {
			bad := &g[int(a)%len(g)]
			bad.At += int(b)%5 - 2
			bad.B = bad.B[int(a)%2:]
		}
		return x.commit(g)
	}
	return nil
}

// script has a call for every three bytes behind the first one, which is for the disk's size, and looks at all sectors behind each.
func script(t *testing.T, calls []byte) {
	if len(calls) == 0 || len(calls) > 3000 {
		return
	}
	sectors := 4 + int(calls[0])%12
	if calls[0] > 250 {
		sectors = 120 + int(calls[0])%30
	}
	d := newDisk(t, sectors)
	room := 0
	for 1+(room+64)/64+2*(room+1) <= sectors {
		room++
	}
	x := &run{disk: d, log: opened(t, d), want: &reference{room: room}}
	for i := 1; i+2 < len(calls); i += 3 {
		err := x.do(calls[i], calls[i+1], calls[i+2])
		if err == nil {
			err = x.same()
		}
		if err != nil {
			t.Fatalf("%v: at byte %d: %v", calls, i, err)
		}
	}
}

func TestRandomCalls(t *testing.T) {
	random := rand.New(rand.NewSource(1))
	for range 3000 {
		calls := make([]byte, 1+3*random.Intn(60))
		random.Read(calls)
		script(t, calls)
	}
}

func FuzzCalls(f *testing.F) {
	f.Add([]byte{4, 5, 0, 2, 0, 1, 0, 6, 1, 2, 4, 0, 0, 4, 0, 0})
	f.Add([]byte{8, 5, 1, 4, 0, 6, 0, 6, 3, 3, 2, 0, 0, 0, 1, 0, 3, 0, 0, 2, 0, 0, 3, 0, 0})
	f.Fuzz(script)
}
