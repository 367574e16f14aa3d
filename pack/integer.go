package pack

const (
	groupBits = 7
	more      = 1 << groupBits // what is added to a byte that is not the last one
	maxGroups = 10             // of a zigzag value of 64 bits
)

// groups is the encoding of an integer: so many bytes, one for each group, and zeros in the rest of the array, so that two of them can be compared.
type groups struct {
	bytes [maxGroups]byte
	count int
}

// encode is the one encoding of n.
func encode(n int) groups {
	var g groups
	z := zigzag(n)
	for ; z >= more; z >>= groupBits {
		g.add(byte(z%more) + more)
	}
	g.add(byte(z))
	return g
}

func (g *groups) add(b byte) {
	g.bytes[g.count] = b
	g.count++
}

// decode is the integer at the beginning of b, and how many bytes it has there. What Int would not write is refused: that covers the bytes that are not necessary as well as the bits beyond the 64th.
func decode(b []byte) (n, size int, ok bool) {
	g, ok := first(b)
	if !ok {
		return 0, 0, false
	}
	n = g.value()
	if encode(n) != g {
		return 0, 0, false
	}
	return n, g.count, true
}

// first is the bytes of b as far as the first one that nothing is added to, if that is one of those which an integer may have.
func first(b []byte) (groups, bool) {
	var g groups
	for _, x := range b[:min(len(b), maxGroups)] {
		g.add(x)
		if x < more {
			return g, true
		}
	}
	return groups{}, false
}

// value drops the bits beyond the 64th.
func (g groups) value() int {
	var z uint64
	for i, x := range g.bytes {
		z |= uint64(x%more) << (i * groupBits)
	}
	return unzigzag(z)
}

// zigzag is 2 * n, or -2 * n - 1 if n is negative: that is the complement of 2 * n, which does not wrap round where -n would.
func zigzag(n int) uint64 {
	z := uint64(n) << 1
	if n < 0 {
		return ^z
	}
	return z
}

func unzigzag(z uint64) int {
	n := int(z >> 1)
	if z%2 == 1 {
		return ^n
	}
	return n
}
