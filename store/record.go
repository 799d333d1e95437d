package store

import (
	"bytes"

	"cupel/codec"
	"cupel/sha"
)

const (
	lengthSize = 4  // bytes of a piece's length
	sealSize   = 16 // bytes of a seal
	aroundSize = lengthSize + lengthSize + sealSize
)

// place is where a record stands among a store's bytes.
type place struct{ from, to int }

// sealOf is a record's seal, by that of the record ahead.
func sealOf(ahead, record []byte) []byte {
	d := sha.Sum(codec.Join(ahead, record))
	return d[:sealSize:sealSize]
}

// lastSeal is the last record's seal; of no record it is nothing.
func (s *Store) lastSeal() []byte {
	end := len(s.bytes)
	if end == 0 {
		return nil
	}
	return s.bytes[end-sealSize : end : end]
}

// sealed is the bytes of a record that comes next.
func (s *Store) sealed(record []byte) []byte {
	return codec.Join(record, sealOf(s.lastSeal(), record))
}

// put has a record's bytes stand behind all others.
func (s *Store) put(sealed []byte) {
	from := len(s.bytes) + lengthSize
	s.places.add(place{from: from, to: from + len(sealed) - aroundSize})
	s.bytes = append(s.bytes, sealed...)
}

// record is a copy of the one at a place.
func (s *Store) record(at place) []byte { return bytes.Clone(s.bytes[at.from:at.to]) }
