package page

import (
	"bytes"
	"math/rand"
	"slices"
	"sort"
	"strings"
	"testing"

	"malthouse/api"
)

// The chapter once more, from its definitions: what the package does is held against it.

func referenceSlots(p api.Pair) int {
	if p.Key == "" || len(p.Key) > 20 {
		return 0
	}
	for slots := 1; slots <= 4; slots++ {
		if 2+len(p.Key)+len(p.B) <= slots*32 {
			return slots
		}
	}
	return 0
}

func referenceLay(l []api.Pair) (string, api.Errno) {
	slots := 0
	full := string([]byte{byte(len(l))})
	for i, p := range l {
		if referenceSlots(p) == 0 || i > 0 && strings.Compare(l[i-1].Key, p.Key) >= 0 {
			return "", 1
		}
		slots += referenceSlots(p)
		full += string([]byte{byte(len(p.Key)), byte(len(p.B))}) + p.Key + string(p.B)
	}
	if slots > 7 {
		return "", 3
	}
	return full + strings.Repeat("\x00", 256-len(full)), 0
}

// referenceRead takes record after record off the front of the bytes, and stops at the first thing that a page does not have.
func referenceRead(s string) ([]api.Pair, bool) {
	if len(s) != 256 {
		return nil, false
	}
	count, s := s[0], s[1:]
	var l []api.Pair
	last, left := "", 7
	for range count {
		if len(s) < 2 || len(s) < 2+int(s[0])+int(s[1]) {
			return nil, false
		}
		key, b := s[2:2+s[0]], s[2+int(s[0]):2+int(s[0])+int(s[1])]
		s = s[2+len(key)+len(b):]
		p := api.Pair{Key: key, B: []byte(b)}
		left -= referenceSlots(p)
		if referenceSlots(p) == 0 || key <= last || left < 0 {
			return nil, false
		}
		last = key
		l = append(l, p)
	}
	return l, strings.Trim(s, "\x00") == ""
}

// compare holds Read of these bytes, and Lay of what was read, against the reference.
func compare(t *testing.T, b []byte) {
	t.Helper()
	was := slices.Clone(b)
	l, e := Read(b)
	want, ok := referenceRead(string(b))
	if !bytes.Equal(b, was) {
		t.Fatalf("Read has changed %v to %v", was, b)
	}
	if !ok {
		if e != 30 || len(l) != 0 {
			t.Fatalf("Read(%v) = %v, error %d, not 30", b, l, e)
		}
		return
	}
	if e != 0 || !same(l, want) {
		t.Fatalf("Read(%v) = %v, error %d, not %v", b, l, e, want)
	}
	if again, e := Lay(l); e != 0 || !bytes.Equal(again, b) {
		t.Fatalf("Read(%v) = %v, which Lay makes %v, error %d", b, l, again, e)
	}
}

func compareRecords(t *testing.T, l []api.Pair) {
	t.Helper()
	slots, all := 0, true
	for _, p := range l {
		n := referenceSlots(p)
		if got := Slots(p); got != n {
			t.Fatalf("Slots(%v) = %d, not %d", p, got, n)
		}
		slots, all = slots+n, all && n > 0
	}
	if !all || slots > 7 {
		slots = 7
	}
	expectFree(t, l, 7-slots)
	b, e := Lay(l)
	want, wantE := referenceLay(l)
	if string(b) != want || e != wantE {
		t.Fatalf("Lay(%v) = %v, error %d, not %v, %d", l, b, e, []byte(want), wantE)
	}
	if e == 0 {
		expectRead(t, b, l)
	}
}

// someRecords are mostly a page, with few different keys.
func someRecords(random *rand.Rand) []api.Pair {
	l := make([]api.Pair, random.Intn(9))
	for i := range l {
		key := make([]byte, 1+random.Intn(3))
		if random.Intn(6) == 0 {
			key = make([]byte, random.Intn(23))
		}
		for k := range key {
			key[k] = []byte{0, 1, 'a', 'b', 127, 128, 255}[random.Intn(7)]
		}
		b := make([]byte, random.Intn(40))
		if random.Intn(6) == 0 {
			b = make([]byte, random.Intn(135))
		}
		random.Read(b)
		l[i] = api.Pair{Key: string(key), B: b}
	}
	if random.Intn(8) > 0 {
		sort.Slice(l, func(i, k int) bool { return l[i].Key < l[k].Key })
	}
	return l
}

func TestRandomRecords(t *testing.T) {
	random := rand.New(rand.NewSource(8))
	met := map[api.Errno]int{}
	for range 50000 {
		l := someRecords(random)
		compareRecords(t, l)
		_, e := referenceLay(l)
		met[e]++
	}
	for _, e := range []api.Errno{0, 1, 3} {
		if met[e] < 1000 {
			t.Errorf("only %d of the lists have the error %d", met[e], e)
		}
	}
}

// P6.3: a page with every byte changed to any other one: few of them are pages still, and these are not the same.
func TestEveryByteOfAPageChanged(t *testing.T) {
	for _, l := range pages() {
		b := laid(t, l)
		for at := range b {
			for x := range 256 {
				c := slices.Clone(b)
				c[at] = byte(x)
				compare(t, c)
			}
		}
	}
}

func TestRandomBytes(t *testing.T) {
	random := rand.New(rand.NewSource(9))
	good := 0
	for range 100000 {
		b, e := Lay(someRecords(random))
		if e != 0 {
			b = make([]byte, 256)
			random.Read(b[:random.Intn(257)])
			b[0] = byte(random.Intn(9))
		}
		for range random.Intn(3) {
			b[random.Intn(1+random.Intn(256))] = []byte{0, 1, 2, 20, 21, 126, 255, byte(random.Intn(256))}[random.Intn(8)]
		}
		compare(t, b)
		if _, ok := referenceRead(string(b)); ok {
			good++
		}
	}
	if good < 10000 || good > 90000 {
		t.Errorf("%d of the bytes are pages", good)
	}
}

func FuzzRead(f *testing.F) {
	for _, l := range pages() {
		f.Add(laid(f, l))
	}
	f.Add([]byte{})
	f.Fuzz(func(t *testing.T, b []byte) {
		compare(t, b)
		compare(t, append(b, make([]byte, max(0, 256-len(b)))...)) // so that short inputs have a sector's length as well
	})
}
