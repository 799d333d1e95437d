package keytree

import (
	"iter"

	"cupel/api"
	"cupel/codec"
	"cupel/lamport"
	"cupel/sha"
)

// maxHigh is how high a tree may be.
const maxHigh = 6

// isHeight tells whether a tree may be so high.
func isHeight(high int) bool { return 0 <= high && high <= maxHigh }

// keyCount is how many keys a tree has that is so high.
func keyCount(high int) int { return 1 << high }

// hasKey tells whether there may be a tree so high, and it has an i-th key.
func hasKey(high, i int) bool { return isHeight(high) && 0 <= i && i < keyCount(high) }

// seedOf is the seed of the i-th key.
func seedOf(seed api.Digest, i int) api.Digest {
	return sha.Sum(codec.Join(seed[:], codec.Numbers(i)))
}

// publicKeys tells the public keys of the first keys of a seed, so many.
func publicKeys(seed api.Digest, many int) iter.Seq[api.Digest] {
	return func(yield func(api.Digest) bool) {
		for i := range many {
			if !yield(lamport.Public(seedOf(seed, i))) {
				return
			}
		}
	}
}
