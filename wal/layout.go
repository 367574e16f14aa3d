package wal

import "malthouse/api"

const (
	entryBytes = 4
	entries    = api.SectorBytes / entryBytes // of a sector of the index
	headAt     = 0
)

// indexOf is the sector of the disk with the entry of a group's copy i.
func indexOf(i int) int {
	return headAt + 1 + i/entries
}

// spare is the sector of the disk with a group's copy i.
func (l *Log) spare(i int) int {
	return indexOf(l.Sectors()-1) + 1 + i
}

// data is the sector of the disk that is data sector at.
func (l *Log) data(at int) int {
	return l.spare(l.Sectors()) + at
}

// head is the contents of a head that tells of n copies. Of none: zeros, as on a disk that was never written.
func head(n int) []byte {
	b := make([]byte, api.SectorBytes)
	setEntry(b, 0, n)
	return b
}

// index is the contents of a sector of the index for a part of a group.
func index(part []api.Write) []byte {
	b := make([]byte, api.SectorBytes)
	for i, w := range part {
		setEntry(b, i, w.At)
	}
	return b
}

func setEntry(b []byte, i, n int) {
	for k := range entryBytes {
		b[i*entryBytes+k] = byte(n >> (8 * k))
	}
}

func entry(b []byte, i int) int {
	n := 0
	for k := range entryBytes {
		n |= int(b[i*entryBytes+k]) << (8 * k)
	}
	return n
}
