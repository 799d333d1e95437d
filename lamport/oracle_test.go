package lamport_test

import (
	"bytes"
	"crypto/sha256"
	"encoding/binary"
	"encoding/hex"
	"testing"

	"cupel/api"
	"cupel/lamport"
)

// This file tells the chapter's words once more, by the library's own hash and numbers, to hold the package against it.

const size = 16384

var (
	noughts = api.Digest{}
	ones    = filled(255)
)

// bitOf reads a digest as 256 letters 0 or 1.
func bitOf(d api.Digest, place int) int {
	var text []byte
	for _, x := range d {
		for mask := byte(128); mask != 0; mask /= 2 {
			if x&mask != 0 {
				text = append(text, '1')
			} else {
				text = append(text, '0')
			}
		}
	}
	return int(text[place] - '0')
}

func wantSecret(seed api.Digest, place, bit int) api.Digest {
	b := binary.BigEndian.AppendUint32(nil, 32)
	b = append(b, seed[:]...)
	b = binary.BigEndian.AppendUint32(b, 16)
	b = binary.BigEndian.AppendUint64(b, uint64(place))
	b = binary.BigEndian.AppendUint64(b, uint64(bit))
	return sha256.Sum256(b)
}

func hash(d api.Digest) api.Digest { return sha256.Sum256(d[:]) }

func wantPublic(seed api.Digest) api.Digest {
	var b []byte
	for i := range 512 {
		d := hash(wantSecret(seed, i/2, i%2))
		b = append(b, d[:]...)
	}
	return sha256.Sum256(b)
}

func wantSign(seed, message api.Digest) lamport.Sig {
	var s lamport.Sig
	for place := range 256 {
		bit := bitOf(message, place)
		s.Open[place] = wantSecret(seed, place, bit)
		s.Rest[place] = hash(wantSecret(seed, place, 1-bit))
	}
	return s
}

func wantKey(message api.Digest, s lamport.Sig) api.Digest {
	var b []byte
	for place := range 256 {
		two := [2]api.Digest{hash(s.Open[place]), s.Rest[place]}
		if bitOf(message, place) == 1 {
			two[0], two[1] = two[1], two[0]
		}
		b = append(append(b, two[0][:]...), two[1][:]...)
	}
	return sha256.Sum256(b)
}

func wantEncode(s lamport.Sig) []byte {
	var b []byte
	for _, d := range s.Open {
		b = append(b, d[:]...)
	}
	for _, d := range s.Rest {
		b = append(b, d[:]...)
	}
	return b
}

// filled is a digest whose bytes are all alike.
func filled(x byte) api.Digest { return api.Digest(bytes.Repeat([]byte{x}, 32)) }

// sample is a digest, no two of them alike.
func sample(n int) api.Digest {
	return sha256.Sum256(binary.BigEndian.AppendUint64(nil, uint64(n)))
}

// single is the digest whose bit at one place alone is 1; turned is d with that bit another one.
func single(place int) api.Digest { return turned(noughts, place) }

func turned(d api.Digest, place int) api.Digest {
	d[place/8] ^= 128 >> (place % 8)
	return d
}

// someSig is a signature of no key: digests, no two of them alike.
func someSig() lamport.Sig {
	var s lamport.Sig
	for place := range 256 {
		s.Open[place] = sample(2*place + 1000)
		s.Rest[place] = sample(2*place + 1001)
	}
	return s
}

// seeds and messages are the edges that the chapter names, and some others.
func seeds() []api.Digest {
	return []api.Digest{noughts, ones, {0: 1}, {31: 1}, {0: 128}, counted(), sample(1), sample(2)}
}

func messages() []api.Digest {
	return []api.Digest{noughts, ones, single(0), single(255), turned(ones, 0), turned(ones, 255), filled(0x55), filled(0xaa), filled(1), filled(128), counted(), sample(3)}
}

// counted is the digest whose bytes are 0 to 31.
func counted() api.Digest {
	var d api.Digest
	for i := range d {
		d[i] = byte(i)
	}
	return d
}

// is holds a digest to digits.
func is(t *testing.T, what string, d api.Digest, digits string) {
	t.Helper()
	if got := hex.EncodeToString(d[:]); got != digits {
		t.Errorf("%s: %s, want %s", what, got, digits)
	}
}
