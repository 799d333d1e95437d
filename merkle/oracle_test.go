package merkle_test

import (
	"bytes"
	"crypto/sha256"
	"math"
	"slices"
	"testing"

	"cupel/api"
	"cupel/merkle"
)

// This file tells the chapter's words once more, top down and by the library's own hash, to hold the package against it.

func wantLeaf(b []byte) api.Digest { return sha256.Sum256(slices.Concat([]byte{0}, b)) }

func wantNode(a, b api.Digest) api.Digest {
	return sha256.Sum256(slices.Concat([]byte{1}, a[:], b[:]))
}

// split is the greatest power of two that is less than n.
func split(n int) int {
	k := 1
	for k < n-k {
		k *= 2
	}
	return k
}

func wantRoot(l [][]byte) api.Digest {
	switch len(l) {
	case 0:
		return sha256.Sum256([]byte{2})
	case 1:
		return wantLeaf(l[0])
	}
	k := split(len(l))
	return wantNode(wantRoot(l[:k]), wantRoot(l[k:]))
}

func wantProof(i int, l [][]byte) []api.Digest {
	if len(l) == 1 {
		return nil
	}
	k := split(len(l))
	if i < k {
		return append(wantProof(i, l[:k]), wantRoot(l[k:]))
	}
	return append(wantProof(i-k, l[k:]), wantRoot(l[:k]))
}

// wantLen is how many digests a proof has.
func wantLen(n, i int) int {
	if n == 1 {
		return 0
	}
	k := split(n)
	if i < k {
		return 1 + wantLen(k, i)
	}
	return 1 + wantLen(n-k, i-k)
}

// wantFold is the root by a proof that is long enough; its last digest is beside the way's last part.
func wantFold(n, i int, leaf []byte, proof []api.Digest) api.Digest {
	if n == 1 {
		return wantLeaf(leaf)
	}
	k, end := split(n), len(proof)-1
	if i < k {
		return wantNode(wantFold(k, i, leaf, proof[:end]), proof[end])
	}
	return wantNode(proof[end], wantFold(n-k, i-k, leaf, proof[:end]))
}

// sample is n leaves of many lengths, no two of them alike.
func sample(n int) [][]byte {
	l := make([][]byte, n)
	for i := range l {
		l[i] = bytes.Repeat([]byte{byte(i), byte(i >> 8)}, 1+i%50)[i%2:]
	}
	return l
}

// digests is n of them, no two of them alike.
func digests(n int) []api.Digest {
	l := make([]api.Digest, n)
	for i := range l {
		l[i] = sha256.Sum256([]byte{9, byte(i), byte(i >> 8)})
	}
	return l
}

// copied is leaves that share nothing with l.
func copied(l [][]byte) [][]byte {
	out := make([][]byte, len(l))
	for i, b := range l {
		out[i] = bytes.Clone(b)
	}
	return out
}

// same tells whether two rows have the same leaves; a nil leaf is an empty one.
func same(a, b [][]byte) bool { return slices.EqualFunc(a, b, bytes.Equal) }

// counts is numbers of leaves: all small ones, and those about greater powers of two.
func counts() []int {
	var l []int
	for n := range 70 {
		l = append(l, n)
	}
	return append(l, 127, 128, 129, 255, 256, 257)
}

// noPlaces is numbers for which n leaves have none.
func noPlaces(n int) []int {
	return []int{-1, -2, -n - 1, math.MinInt, math.MinInt + 1, n, n + 1, 2*n + 1, 1 << 32, 1 << 62, math.MaxInt}
}

// refuseFold holds Fold to an error, and to a digest of noughts beside it.
func refuseFold(t *testing.T, want api.Errno, n, i int, leaf []byte, proof []api.Digest) {
	t.Helper()
	if d, e := merkle.Fold(n, i, leaf, proof); e != want || d != (api.Digest{}) {
		t.Errorf("%d of %d, %d digests: %x %d", i, n, len(proof), d, int(e))
	}
}
