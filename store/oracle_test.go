package store_test

import (
	"bytes"
	"crypto/sha256"
	"encoding/binary"
	"math"
	"math/rand/v2"
	"testing"

	"cupel/api"
	"cupel/store"
)

// This file tells the chapter's words once more, to hold the package against them.

// sealSize is how many bytes a seal has.
const sealSize = 16

// piece is a piece's bytes.
func piece(b []byte) []byte {
	return append(binary.BigEndian.AppendUint32(nil, uint32(len(b))), b...)
}

// joined is the bytes of pieces.
func joined(l ...[]byte) []byte {
	var b []byte
	for _, x := range l {
		b = append(b, piece(x)...)
	}
	return b
}

// sealed is a record's seal, behind the seal of the record ahead.
func sealed(ahead, record []byte) []byte {
	d := sha256.Sum256(joined(ahead, record))
	return d[:sealSize]
}

// written is the bytes of each of these records, one behind the other in a store.
func written(records ...[]byte) [][]byte {
	var l [][]byte
	var seal []byte
	for _, r := range records {
		seal = sealed(seal, r)
		l = append(l, joined(r, seal))
	}
	return l
}

// bytesOf is a store's bytes.
func bytesOf(records ...[]byte) []byte { return bytes.Join(written(records...), nil) }

// wholeOf is how many of these records are whole among so many of the first bytes of their store, and how many bytes are behind them.
func wholeOf(keep int, records ...[]byte) (many, behind int) {
	for _, b := range written(records...) {
		if len(b) > keep {
			break
		}
		many, keep = many+1, keep-len(b)
	}
	return many, keep
}

// texts is words as records.
func texts(l ...string) [][]byte {
	records := make([][]byte, len(l))
	for i, x := range l {
		records[i] = []byte(x)
	}
	return records
}

// long is so many bytes.
func long(n int) []byte {
	b := make([]byte, n)
	for i := range b {
		b[i] = byte(i*7 + i/256)
	}
	return b
}

// drawn is up to so many records of up to so many bytes, some of which are the same.
func drawn(chance *rand.Rand, many, size int) [][]byte {
	records := make([][]byte, chance.IntN(many+1))
	for i := range records {
		switch chance.IntN(4) {
		case 0:
			records[i] = []byte{}
		case 1:
			records[i] = []byte{1, 2}
		default:
			records[i] = drawnBytes(chance, chance.IntN(size+1))
		}
	}
	return records
}

// drawnBytes is so many bytes.
func drawnBytes(chance *rand.Rand, n int) []byte {
	b := make([]byte, n)
	for i := range b {
		b[i] = byte(chance.Uint32())
	}
	return b
}

// of is a store to which these records were appended.
func of(t testing.TB, records ...[]byte) *store.Store {
	t.Helper()
	s := store.New()
	add(t, s, records...)
	return s
}

// add appends records.
func add(t testing.TB, s *store.Store, records ...[]byte) {
	t.Helper()
	for _, r := range records {
		if e := s.Append(r); e != api.OK {
			t.Fatalf("Append: %d", int(e))
		}
	}
}

// holds holds a store to its records: all its calls, at all places and at some where there is none.
func holds(t testing.TB, s *store.Store, records ...[]byte) {
	t.Helper()
	if s == nil {
		t.Fatal("no store")
	}
	if n := s.Len(); n != len(records) {
		t.Fatalf("Len: %d, not %d", n, len(records))
	}
	for i, want := range records {
		if r, e := s.Get(i); !bytes.Equal(r, want) || e != api.OK {
			t.Fatalf("Get(%d): %q %d, not %q", i, r, int(e), want)
		}
	}
	for _, i := range []int{-1, -2, len(records), len(records) + 1, math.MinInt, math.MinInt + 1, math.MaxInt} {
		if r, e := s.Get(i); len(r) != 0 || e != api.ErrRange {
			t.Fatalf("Get(%d): %q %d", i, r, int(e))
		}
	}
	tells(t, s.All(), records...)
	if b := s.Bytes(); !bytes.Equal(b, bytesOf(records...)) {
		t.Fatalf("Bytes: %q, not %q", b, bytesOf(records...))
	}
}

// tells holds an iterator to these records, in order, from the place 0 on.
func tells(t testing.TB, all func(func(int, []byte) bool), records ...[]byte) {
	t.Helper()
	if all == nil {
		t.Fatal("no iterator")
	}
	n := 0
	for i, r := range all {
		if i != n || n >= len(records) || !bytes.Equal(r, records[n]) {
			t.Fatalf("All tells %d %q as number %d", i, r, n)
		}
		n++
	}
	if n != len(records) {
		t.Fatalf("All tells %d, not %d", n, len(records))
	}
}

// recovers holds Recover of bytes to these records and so many bytes behind them; it is the store.
func recovers(t testing.TB, b []byte, behind int, records ...[]byte) *store.Store {
	t.Helper()
	s, n := store.Recover(b)
	if n != behind {
		t.Fatalf("Recover: %d bytes behind, not %d", n, behind)
	}
	holds(t, s, records...)
	return s
}
