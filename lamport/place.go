package lamport

import (
	"cupel/api"
	"cupel/sha"
)

const (
	places    = 256 // bits of a digest
	bitValues = 2   // 0 and 1
)

// pairs is two digests at each place, that of 0 ahead.
type pairs [places][bitValues]api.Digest

// bitAt is the bit at a place of a digest: of each byte the highest one comes first.
func bitAt(d api.Digest, place int) int {
	return int(d[place/8]>>(7-place%8)) & 1
}

// keyOf is the public key of which digestAt tells the digest at each place, of either bit.
func keyOf(digestAt func(place, bit int) api.Digest) api.Digest {
	var p pairs
	for place := range places {
		for bit := range bitValues {
			p[place][bit] = digestAt(place, bit)
		}
	}
	return p.sum()
}

// sum is the digest of all digests, one behind the other.
func (p *pairs) sum() api.Digest {
	h := sha.New()
	for place := range places {
		for bit := range bitValues {
			h.Write(p[place][bit][:])
		}
	}
	return h.Sum()
}
