package store

import (
	"bytes"
	"cmp"
	"slices"

	"malthouse/api"
	"malthouse/page"
)

func (s *Store) apply(l []api.Act) api.Errno {
	// A group without sectors writes nothing, and fails if the power is off or an Apply has missed it.
	if e := s.log.Commit(nil); e != api.OK {
		return e
	}
	if len(l) > api.MaxActs {
		return api.ErrLong
	}
	// Sorted, so that not even the places of the records depend on the order of the acts.
	acts := slices.Clone(l)
	slices.SortFunc(acts, func(a, b api.Act) int { return cmp.Compare(a.Key, b.Key) })
	if !valid(acts) {
		return api.ErrArg
	}
	acts = slices.DeleteFunc(acts, s.idle)
	if s.Used()+s.growth(acts) > s.Room() {
		return api.ErrFull
	}
	return s.write(s.change(acts))
}

// valid tells whether sorted acts are those of a batch.
func valid(acts []api.Act) bool {
	for i, a := range acts {
		if page.Slots(record(a)) == 0 || i > 0 && acts[i-1].Key == a.Key {
			return false
		}
	}
	return true
}

// record is what an act stores. Of a deletion only the key counts.
func record(a api.Act) api.Pair {
	if a.Drop {
		return api.Pair{Key: a.Key}
	}
	return api.Pair{Key: a.Key, B: a.B}
}

// idle tells whether an act changes nothing.
func (s *Store) idle(a api.Act) bool {
	r, there := s.find(a.Key)
	if a.Drop {
		return !there
	}
	return there && bytes.Equal(r.B, a.B)
}

// growth is how many slots more the records have behind these acts.
func (s *Store) growth(acts []api.Act) int {
	n := 0
	for _, a := range acts {
		if r, there := s.find(a.Key); there {
			n -= page.Slots(r)
		}
		if !a.Drop {
			n += page.Slots(record(a))
		}
	}
	return n
}

// change executes acts in the pages that are kept here, and returns those that it has changed: for each act the one that the record was in, if any, and the one that it is in now, if any. All earlier records go first, so that the room that they leave can be used.
func (s *Store) change(acts []api.Act) []int {
	var changed []int
	for _, a := range acts {
		if at, there := s.where[a.Key]; there {
			s.pages[at] = slices.DeleteFunc(s.pages[at], hasKey(a.Key))
			delete(s.where, a.Key)
			changed = append(changed, at)
		}
	}
	for _, a := range acts {
		if a.Drop {
			continue
		}
		r := api.Pair{Key: a.Key, B: bytes.Clone(a.B)}
		at := s.place(page.Slots(r), changed)
		s.insert(at, r)
		changed = append(changed, at)
	}
	return changed
}

// place is a page with so many slots free: one of those that are written anyway, if possible. There is one, since there is room.
func (s *Store) place(slots int, changed []int) int {
	for _, at := range changed {
		if page.Free(s.pages[at]) >= slots {
			return at
		}
	}
	return slices.IndexFunc(s.pages, func(p []api.Pair) bool { return page.Free(p) >= slots })
}

func (s *Store) insert(at int, r api.Pair) {
	i, _ := slices.BinarySearchFunc(s.pages[at], r, byKey)
	s.pages[at] = slices.Insert(s.pages[at], i, r)
	s.where[r.Key] = at
}

// write writes these pages as one group.
func (s *Store) write(changed []int) api.Errno {
	slices.Sort(changed)
	var g []api.Write
	for _, at := range slices.Compact(changed) {
		b, e := page.Lay(s.pages[at])
		if e != api.OK {
			return e
		}
		g = append(g, api.Write{At: at, B: b})
	}
	return s.log.Commit(g)
}
