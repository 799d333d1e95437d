// Package sha is layer 1: digests (SHA-256). See shared/doc/01-sha.md.
package sha

import (
	"cupel/api"
)

// Hash takes bytes piece by piece.
type Hash struct {
	state state
	// Only what no block has taken yet is kept: as many bytes of tail as taken leaves over.
	tail  [blockSize]byte
	taken int
}

// New is one that has taken nothing.
func New() *Hash { return &Hash{state: start} }

// Sum is the digest of bytes.
func Sum(b []byte) api.Digest {
	s := start
	rest := s.takeBlocks(b)
	return s.finish(rest, len(b))
}

// Write takes bytes.
func (h *Hash) Write(b []byte) {
	if h == nil {
		return
	}
	kept := h.taken % blockSize
	h.taken += len(b)
	n := copy(h.tail[kept:], b)
	if kept+n < blockSize {
		return
	}
	h.state.takeBlocks(h.tail[:])
	rest := h.state.takeBlocks(b[n:])
	copy(h.tail[:], rest)
}

// Sum is the digest of all that was taken.
func (h *Hash) Sum() api.Digest {
	if h == nil {
		return Sum(nil)
	}
	// A copy is finished, as more bytes may be written after this.
	s := h.state
	return s.finish(h.tail[:h.taken%blockSize], h.taken)
}

// Len is how many bytes were taken.
func (h *Hash) Len() int {
	if h == nil {
		return 0
	}
	return h.taken
}
