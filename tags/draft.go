package tags

import "malthouse/api"

// lists are the two lists of an image in one value, so that neither changes without the other.
type lists api.Image

// set changes a single tag.
func (l lists) set(at, n int, bad bool) {
	l.V[at], l.Bad[at] = n, bad
}

// draft is an image under construction, beside the tags whose bounds it keeps to.
type draft struct {
	lists
	tags []api.Tag
}

// store takes a value that may lie outside the bounds. An output is never Bad, since only the plant reports what it cannot have.
func (d draft) store(at, n int) {
	t := d.tags[at]
	kept := limit(t, n)
	d.set(at, kept, !t.Out && kept != n)
}
