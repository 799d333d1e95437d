package sha

import (
	"math/bits"

	"cupel/api"
)

const (
	blockSize  = 64 // bytes
	lengthSize = 8  // bytes of the length that ends the last block
)

// state is the words a to h.
type state [8]uint32

// schedule is a word for each round of a block.
type schedule [64]uint32

// start is the fractions of the square roots of the first eight primes.
var start = state{
	1779033703, 3144134277, 1013904242, 2773480762, 1359893119, 2600822924, 528734635, 1541459225,
}

// roundConstants is the fractions of the cube roots of the first 64 primes.
var roundConstants = [64]uint32{
	0x428a2f98, 0x71374491, 0xb5c0fbcf, 0xe9b5dba5, 0x3956c25b, 0x59f111f1, 0x923f82a4, 0xab1c5ed5,
	0xd807aa98, 0x12835b01, 0x243185be, 0x550c7dc3, 0x72be5d74, 0x80deb1fe, 0x9bdc06a7, 0xc19bf174,
	0xe49b69c1, 0xefbe4786, 0x0fc19dc6, 0x240ca1cc, 0x2de92c6f, 0x4a7484aa, 0x5cb0a9dc, 0x76f988da,
	0x983e5152, 0xa831c66d, 0xb00327c8, 0xbf597fc7, 0xc6e00bf3, 0xd5a79147, 0x06ca6351, 0x14292967,
	0x27b70a85, 0x2e1b2138, 0x4d2c6dfc, 0x53380d13, 0x650a7354, 0x766a0abb, 0x81c2c92e, 0x92722c85,
	0xa2bfe8a1, 0xa81a664b, 0xc24b8b70, 0xc76c51a3, 0xd192e819, 0xd6990624, 0xf40e3585, 0x106aa070,
	0x19a4c116, 0x1e376c08, 0x2748774c, 0x34b0bcb5, 0x391c0cb3, 0x4ed8aa4a, 0x5b9cca4f, 0x682e6ff3,
	0x748f82ee, 0x78a5636f, 0x84c87814, 0x8cc70208, 0x90befffa, 0xa4506ceb, 0xbef9a3f7, 0xc67178f2,
}

// takeBlocks turns the state by the whole blocks of b; the answer is the bytes behind them.
func (s *state) takeBlocks(b []byte) []byte {
blocks:
	for {
		if len(b) < blockSize {
			break blocks
		}
		s.turn(b[:blockSize:blockSize])
		b = b[blockSize:]
	}
	return b
}

// finish turns the state by what is left of n bytes, filled up; the answer is the state as bytes.
func (s *state) finish(rest []byte, n int) api.Digest {
	// Two blocks, for a rest that leaves no room for the length in its own; an array, as the caller's bytes are not to be written behind.
	var filled [2 * blockSize]byte
	end := blockSize
	if len(rest)+1+lengthSize > blockSize {
		end = 2 * blockSize
	}
	copy(filled[:], rest)
	filled[len(rest)] = 128
	length := uint64(n) * 8
	for i := range lengthSize {
		filled[end-1-i] = byte(length >> (8 * i))
	}
	s.takeBlocks(filled[:end:end])
	return s.digest()
}

// digest is the words as bytes.
func (s *state) digest() api.Digest {
	var d api.Digest
	for i, w := range s {
		d[4*i] = byte(w >> 24)
		d[4*i+1] = byte(w >> 16)
		d[4*i+2] = byte(w >> 8)
		d[4*i+3] = byte(w)
	}
	return d
}

// spread is the words of a block, and those that follow from them.
func spread(block []byte) schedule {
	turned := func(x uint32, k int) uint32 { return bits.RotateLeft32(x, -k) }
	var w schedule
	for t := range 16 {
		four := block[4*t : 4*t+4 : 4*t+4]
		w[t] = uint32(four[0])<<24 | uint32(four[1])<<16 | uint32(four[2])<<8 | uint32(four[3])
	}
	for t := 16; t < len(w); t++ {
		x, y := w[t-15], w[t-2]
		s0 := turned(x, 7) ^ turned(x, 18) ^ x>>3
		s1 := turned(y, 17) ^ turned(y, 19) ^ y>>10
		w[t] = s1 + w[t-7] + s0 + w[t-16]
	}
	return w
}

// turn turns the state by one block.
func (s *state) turn(block []byte) {
	turned := func(x uint32, k int) uint32 { return bits.RotateLeft32(x, -k) }
	words := spread(block)
	a, b, c, d, e, f, g, h := s[0], s[1], s[2], s[3], s[4], s[5], s[6], s[7]
	for t := range words {
		sum1 := turned(e, 6) ^ turned(e, 11) ^ turned(e, 25)
		sum0 := turned(a, 2) ^ turned(a, 13) ^ turned(a, 22)
		choice := e&f ^ ^e&g
		majority := a&b ^ a&c ^ b&c
		p := h + sum1 + choice + roundConstants[t] + words[t]
		q := sum0 + majority
		h, g, f, e, d, c, b, a = g, f, e, d+p, c, b, a, p+q
	}
	for i, word := range [8]uint32{a, b, c, d, e, f, g, h} {
		s[i] += word
	}
}
