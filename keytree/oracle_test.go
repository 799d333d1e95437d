package keytree_test

import (
	"bytes"
	"crypto/sha256"
	"encoding/binary"
	"encoding/hex"
	"slices"
	"testing"

	"cupel/api"
	"cupel/keytree"
	"cupel/lamport"
)

// This file tells the chapter's words once more, by the library's own hash and numbers, to hold the package against it. Of the layers below only lamport's keys and signatures are taken.

const (
	maxHigh = 6
	sigSize = 16384
)

var (
	noughts = api.Digest{}
	ones    = filled(255)
)

func hash(l ...[]byte) api.Digest { return sha256.Sum256(slices.Concat(l...)) }

func wantSeed(seed api.Digest, i int) api.Digest {
	b := binary.BigEndian.AppendUint32(nil, 32)
	b = append(b, seed[:]...)
	b = binary.BigEndian.AppendUint32(b, 8)
	return hash(binary.BigEndian.AppendUint64(b, uint64(i)))
}

// wantKeys is the public keys of a tree.
func wantKeys(seed api.Digest, high int) []api.Digest {
	var l []api.Digest
	for i := range 1 << high {
		l = append(l, lamport.Public(wantSeed(seed, i)))
	}
	return l
}

// wantRoot halves the keys, there being a power of two of them.
func wantRoot(keys []api.Digest) api.Digest {
	if len(keys) == 1 {
		return hash([]byte{0}, keys[0][:])
	}
	half := len(keys) / 2
	a, b := wantRoot(keys[:half]), wantRoot(keys[half:])
	return hash([]byte{1}, a[:], b[:])
}

func wantPath(i int, keys []api.Digest) []api.Digest {
	if len(keys) == 1 {
		return nil
	}
	half := len(keys) / 2
	if i < half {
		return append(wantPath(i, keys[:half]), wantRoot(keys[half:]))
	}
	return append(wantPath(i-half, keys[half:]), wantRoot(keys[:half]))
}

// wantFold is the root to which a key and the digests beside its way lead.
func wantFold(i int, key api.Digest, path []api.Digest) api.Digest {
	d := hash([]byte{0}, key[:])
	for height, beside := range path {
		if i>>height&1 == 0 {
			d = hash([]byte{1}, d[:], beside[:])
		} else {
			d = hash([]byte{1}, beside[:], d[:])
		}
	}
	return d
}

func wantEncode(x keytree.Signed) []byte {
	b := binary.BigEndian.AppendUint32(nil, 8)
	b = binary.BigEndian.AppendUint64(b, uint64(x.Index))
	b = binary.BigEndian.AppendUint32(b, sigSize)
	for _, d := range slices.Concat(x.Sig.Open[:], x.Sig.Rest[:]) {
		b = append(b, d[:]...)
	}
	b = binary.BigEndian.AppendUint32(b, uint32(32*len(x.Path)))
	for _, d := range x.Path {
		b = append(b, d[:]...)
	}
	return b
}

// filled is a digest whose bytes are all alike.
func filled(x byte) api.Digest { return api.Digest(bytes.Repeat([]byte{x}, 32)) }

// counted is the digest whose bytes are 0 to 31.
func counted() api.Digest {
	var d api.Digest
	for i := range d {
		d[i] = byte(i)
	}
	return d
}

// sample is a digest, no two of them alike.
func sample(n int) api.Digest { return hash(binary.BigEndian.AppendUint64(nil, uint64(n))) }

// samples is so many digests.
func samples(many int) []api.Digest {
	var l []api.Digest
	for i := range many {
		l = append(l, sample(5000+i))
	}
	return l
}

// someSig is a signature of no key.
func someSig() lamport.Sig {
	var s lamport.Sig
	for place := range 256 {
		s.Open[place] = sample(2*place + 1000)
		s.Rest[place] = sample(2*place + 1001)
	}
	return s
}

func messages() []api.Digest {
	return []api.Digest{noughts, ones, {0: 128}, {31: 1}, counted(), sample(1)}
}

// signer is a new one.
func signer(t *testing.T, seed api.Digest, high int) *keytree.Signer {
	t.Helper()
	s, e := keytree.New(seed, high)
	if e != api.OK || s == nil {
		t.Fatalf("high by %d: %d", high, int(e))
	}
	return s
}

// sign is what a signer that has a key answers.
func sign(t *testing.T, s *keytree.Signer, message api.Digest) keytree.Signed {
	t.Helper()
	x, e := s.Sign(message)
	if e != api.OK {
		t.Fatalf("key %d: %d", s.Next(), int(e))
	}
	return x
}

// signedBy is a signature by the i-th key of a new signer, and that signer's root.
func signedBy(t *testing.T, seed api.Digest, high, i int, message api.Digest) (keytree.Signed, api.Digest) {
	t.Helper()
	s := signer(t, seed, high)
	if e := s.Skip(i); e != api.OK {
		t.Fatalf("Skip(%d): %d", i, int(e))
	}
	return sign(t, s, message), s.Root()
}

// same tells whether two signatures are; a path without digests may be nil.
func same(x, y keytree.Signed) bool {
	return x.Index == y.Index && x.Sig == y.Sig && slices.Equal(x.Path, y.Path)
}

// isNothing tells whether a signature is the zero value.
func isNothing(x keytree.Signed) bool { return same(x, keytree.Signed{}) }

// clone is a signature that shares no digests with x.
func clone(x keytree.Signed) keytree.Signed {
	x.Path = slices.Clone(x.Path)
	return x
}

// is holds a digest to digits.
func is(t *testing.T, what string, d api.Digest, digits string) {
	t.Helper()
	if got := hex.EncodeToString(d[:]); got != digits {
		t.Errorf("%s: %s, want %s", what, got, digits)
	}
}
