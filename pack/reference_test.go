package pack

import (
	"math/big"
	"math/rand"

	"malthouse/api"
)

// The chapter once more, with numbers of any size: what Writers and Readers do is held against it.

func referenceInt(n int) []byte {
	z := new(big.Int).Mul(big.NewInt(int64(n)), big.NewInt(2))
	if n < 0 {
		z.Neg(z).Sub(z, big.NewInt(1))
	}
	var b []byte
	for {
		group := new(big.Int)
		z.DivMod(z, big.NewInt(128), group)
		if z.Sign() == 0 {
			return append(b, byte(group.Int64()))
		}
		b = append(b, byte(group.Int64())+128)
	}
}

func referenceBool(b bool) []byte {
	if b {
		return []byte{1}
	}
	return []byte{0}
}

func referenceText(s string) []byte {
	return append(referenceInt(len(s)), s...)
}

// referenceReader has all bytes and a position; it goes back there when a call fails.
type referenceReader struct {
	b      []byte
	at     int
	failed bool
}

func (r *referenceReader) try(read func() bool) bool {
	was := r.at
	if !r.failed && read() {
		return true
	}
	r.at, r.failed = was, true
	return false
}

func (r *referenceReader) integer(n *int) bool {
	z := new(big.Int)
	for i := 0; r.at < len(r.b); i++ {
		x := r.b[r.at]
		r.at++
		z.Add(z, new(big.Int).Lsh(big.NewInt(int64(x&127)), uint(7*i)))
		if x >= 128 {
			continue
		}
		if i > 0 && x == 0 {
			return false
		}
		if z.Bit(0) == 1 {
			z.Add(z, big.NewInt(1)).Neg(z)
		}
		z.Quo(z, big.NewInt(2))
		*n = int(z.Int64())
		return z.IsInt64()
	}
	return false
}

func (r *referenceReader) Int() int {
	n := 0
	if !r.try(func() bool { return r.integer(&n) }) {
		return 0
	}
	return n
}

func (r *referenceReader) Bool() bool {
	if !r.try(func() bool { r.at++; return r.at <= len(r.b) && r.b[r.at-1] < 2 }) {
		return false
	}
	return r.b[r.at-1] == 1
}

func (r *referenceReader) Text(most int) string {
	s := ""
	r.try(func() bool {
		n := 0
		if !r.integer(&n) || n < 0 || n > most || n > len(r.b)-r.at {
			return false
		}
		for range n {
			s += string(r.b[r.at : r.at+1])
			r.at++
		}
		return true
	})
	return s
}

func (r *referenceReader) Count(most int) int {
	n := 0
	if !r.try(func() bool { return r.integer(&n) && n >= 0 && n <= most }) {
		return 0
	}
	return n
}

func (r *referenceReader) Left() int { return len(r.b) - r.at }

func (r *referenceReader) Err() api.Errno {
	if r.failed {
		return 30
	}
	return 0
}

// someInt is near a power of two, or anything, of any length.
func someInt(random *rand.Rand) int {
	n := 1 << random.Intn(64)
	switch random.Intn(3) {
	case 0:
		n += random.Intn(5) - 2
	case 1:
		n = int(random.Uint64() >> random.Intn(64))
	}
	if random.Intn(2) == 0 {
		return -n
	}
	return n
}

func someText(random *rand.Rand) string {
	b := make([]byte, random.Intn(6))
	if random.Intn(20) == 0 {
		b = make([]byte, 60+random.Intn(200))
	}
	random.Read(b)
	return string(b)
}
