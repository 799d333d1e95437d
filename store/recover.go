package store

import (
	"bytes"

	"cupel/api"
)

// Recover is the whole records at the beginning of bytes; how many bytes are behind them.
func Recover(b []byte) (*Store, int) {
	s := New()
next:
	record, there := first(b)
	if !there {
		return s, len(b)
	}
	sealed := s.sealed(record)
	if !bytes.HasPrefix(b, sealed) {
		return s, len(b)
	}
	s.put(sealed)
	b = b[len(sealed):]
	goto next
}

// first is the record that b begins with by the length that b tells, if it may be that long, and b has so many bytes.
func first(b []byte) (record []byte, there bool) {
	if len(b) < lengthSize {
		return nil, false
	}
	size, rest := lengthOf(b[:lengthSize:lengthSize]), b[lengthSize:]
	if size > api.MaxText || size > len(rest) {
		return nil, false
	}
	return rest[:size:size], true
}

// lengthOf is the number that bytes tell, the highest one first.
func lengthOf(b []byte) int {
	n := 0
	for _, x := range b {
		n = n<<8 | int(x)
	}
	return n
}
