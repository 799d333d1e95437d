package merkle

import (
	"iter"

	"cupel/api"
)

// part is leaves that are split off together: 2^height of them (fewer, if it is the last one), at so many times as many.
type part struct {
	height int
	place  int
}

// way tells the parts beside the way of the i-th one of n leaves, from the leaf on.
//
// All splits being at powers of two, the way goes through the part i>>height of each height, and the one beside it is its neighbour in a pair.
func way(n, i int) iter.Seq[part] {
	return func(yield func(part) bool) {
	walk:
		for height := 0; ; height++ {
			last := (n - 1) >> height
			beside := part{height, i>>height ^ 1}
			switch {
			case last <= 0:
				break walk
			case beside.place > last:
				// The last part has no neighbour: it is a part of the next height as it is.
				continue walk
			case !yield(beside):
				break walk
			}
		}
	}
}

// proofLen is how many digests a proof of the i-th one of n leaves has.
func proofLen(n, i int) int {
	many := 0
	for range way(n, i) {
		many++
	}
	return many
}

// leaves is those of the part, out of all.
func (p part) leaves(l [][]byte) [][]byte {
	behind := l[p.place<<p.height:]
	return behind[:min(1<<p.height, len(behind))]
}

// joined is the node of the way's own part, and of this one beside it.
func (p part) joined(own, beside api.Digest) api.Digest {
	if p.place%2 == 0 {
		return Node(beside, own)
	}
	return Node(own, beside)
}
