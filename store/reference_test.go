package store

import (
	"fmt"
	"maps"
	"math/rand"
	"slices"
	"testing"

	"malthouse/api"
	"malthouse/disk"
)

// reference is the chapter once more, without a disk: the records, and what else they may be since an Apply has returned ErrDead.
type reference struct {
	room  int
	sure  map[string]string
	maybe map[string]string // nil: nothing else
	dead  bool
}

func (r *reference) told() string {
	var l []api.Pair
	for _, key := range slices.Sorted(maps.Keys(r.sure)) {
		l = append(l, api.Pair{Key: key, B: []byte(r.sure[key])})
	}
	return told(l)
}

func slotsOf(m map[string]string) int {
	n := 0
	for key, b := range m {
		n += (len(key) + len(b) + 2 + 31) / 32
	}
	return n
}

// wrong tells what is wrong with a batch as such.
func (r *reference) wrong(l []api.Act) api.Errno {
	if len(l) > 200 {
		return 2
	}
	keys := map[string]bool{}
	for _, a := range l {
		if keys[a.Key] || len(a.Key) == 0 || len(a.Key) > 20 || !a.Drop && len(a.Key)+len(a.B) > 126 {
			return 1
		}
		keys[a.Key] = true
	}
	return 0
}

// with is the records behind a batch, and how many of its acts count.
func (r *reference) with(l []api.Act) (map[string]string, int) {
	m, c := maps.Clone(r.sure), 0
	for _, a := range l {
		b, there := r.sure[a.Key]
		switch {
		case a.Drop && there:
			delete(m, a.Key)
			c++
		case !a.Drop && (!there || b != string(a.B)):
			m[a.Key] = string(a.B)
			c++
		}
	}
	return m, c
}

// run is a disk, the store on it that was opened last (nil: the Open failed), and what it is held against.
type run struct {
	disk  *disk.Disk
	store *Store
	want  *reference
}

func (x *run) apply(l []api.Act) error {
	if x.store == nil {
		return nil
	}
	had, was := x.disk.Writes(), x.disk.On()
	e := x.store.Apply(l)
	took := x.disk.Writes() - had
	r := x.want
	want, limit := r.wrong(l), 0
	switch {
	case r.dead || !was:
		r.dead, want = true, 6
	case want == 0:
		m, c := r.with(l)
		switch {
		case slotsOf(m) > r.room:
			want = 3
		case x.disk.On():
			r.sure, limit = m, most(c)
		default:
			r.maybe, r.dead, want, limit = m, true, 6, most(c)-1
		}
	}
	if e != want || took > limit {
		return fmt.Errorf("Apply(%v): error %d, not %d, with %d writes, not at most %d", l, e, want, took, limit)
	}
	return nil
}

func (x *run) open() error {
	was := x.disk.On()
	s, e := Open(x.disk)
	x.store = s
	if !was || !x.disk.On() {
		if s != nil || e != 6 {
			return fmt.Errorf("Open without power = %v, error %d", s, e)
		}
		return nil
	}
	if s == nil || e != 0 {
		return fmt.Errorf("Open = %v, error %d", s, e)
	}
	r := x.want
	r.dead = false
	if r.maybe != nil && told(s.All()) != r.told() {
		r.sure = r.maybe
	}
	r.maybe = nil
	return nil
}

// same holds all that can be read against the reference.
func (x *run) same() error {
	s, r := x.store, x.want
	if s == nil {
		return nil
	}
	want := reference{sure: r.sure}
	if r.dead {
		want.sure = nil
	}
	if told(s.All()) != want.told() || s.Used() != slotsOf(want.sure) || s.Room() != r.room {
		return fmt.Errorf("All() = %s, Used() = %d, Room() = %d, not %s, %d, %d", told(s.All()), s.Used(), s.Room(), want.told(), slotsOf(want.sure), r.room)
	}
	for i := range 16 {
		key := keyOf(byte(i))
		b, there := s.Get(key)
		if c, is := want.sure[key]; there != is || string(b) != c {
			return fmt.Errorf("Get(%q) = %q, %t, not %q, %t", key, b, there, c, is)
		}
	}
	return nil
}

// keyOf is one of 16 keys, of all lengths from 0 to 21; most are short.
func keyOf(x byte) string {
	const letters = "kbzaxyhcmdnepfqg"
	switch n := x % 16; {
	case n == 0 && x > 200:
		return ""
	case n == 1 && x > 200:
		return letters[:16] + "12345"
	case n < 3:
		return letters[:16] + "123" + string(letters[n])
	default:
		return letters[n : n+1]
	}
}

// batch is a list of acts, told by its bytes, two for each act.
func batch(told []byte) []api.Act {
	var l []api.Act
	for i := 0; i+1 < len(told); i += 2 {
		a := api.Act{Key: keyOf(told[i]), B: make([]byte, int(told[i+1])/2)}
		for k := range a.B {
			a.B[k] = told[i+1]
		}
		a.Drop = told[i+1]%4 == 1
		if len(a.Key)+len(a.B) > 126 && told[i] < 200 {
			a.B = a.B[:126-len(a.Key)]
		}
		if told[i] < 240 && slices.ContainsFunc(l, func(b api.Act) bool { return b.Key == a.Key }) {
			continue
		}
		l = append(l, a)
	}
	return l
}

// script is calls, each told by two bytes and, for a batch, those of its acts. The first byte of all is for the disk's size.
func script(t *testing.T, calls []byte) {
	if len(calls) == 0 || len(calls) > 3000 {
		return
	}
	d := newDisk(t, 4+int(calls[0])%20)
	room := 4 * ((2 + int(calls[0])%20) / 2)
	x := &run{disk: d, store: opened(t, d), want: &reference{room: room, sure: map[string]string{}}}
	for i := 1; i+1 < len(calls); i += 2 {
		var err error
		switch kind, a := calls[i], calls[i+1]; kind % 16 {
		case 0, 1:
			d.Cut(int(a) % 30)
		case 2:
			d.Up()
		case 3:
			err = x.open()
		case 4:
			d.Up()
			err = x.open()
		default:
			n := min(2*(int(a)%12), len(calls)-i-2)
			err = x.apply(batch(calls[i+2 : i+2+n]))
			i += n / 2 * 2
		}
		if err == nil {
			err = x.same()
		}
		if err != nil {
			t.Fatalf("%v: up to byte %d: %v", calls, i, err)
		}
	}
}

func TestRandomCalls(t *testing.T) {
	random := rand.New(rand.NewSource(1))
	for range 5000 {
		calls := make([]byte, 1+random.Intn(600))
		random.Read(calls)
		script(t, calls)
	}
}

func FuzzCalls(f *testing.F) {
	f.Add([]byte{8, 5, 2, 3, 8, 4, 8, 3, 0, 5, 3, 3, 5, 4, 250, 5, 9})
	f.Add([]byte{4, 5, 3, 3, 250, 4, 250, 5, 60, 0, 2, 5, 2, 3, 5, 6, 250, 2, 0, 3, 0})
	f.Fuzz(script)
}
