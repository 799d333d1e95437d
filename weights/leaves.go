package weights

import (
	"slices"

	"cupel/api"
	"cupel/bpe"
	"cupel/codec"
)

const (
	headLeaves = 1 // leaves ahead of those of the first block: sizes, alphabet and pairs
	headPieces = 3 // what stands in that leaf
)

// Leaves is a model's leaves: its sizes, alphabet and pairs, and each part.
func Leaves(w Weights) ([][]byte, api.Errno) {
	if e := Check(w); e != api.OK {
		return nil, e
	}
	leaves := [][]byte{encodeHead(w)}
	for b := range w.Config.blocks() {
		for row := range slices.Chunk(*b.numbers(&w), b.cols) {
			leaves = append(leaves, codec.Numbers(row...))
		}
	}
	return leaves, api.OK
}

// Encode is a model as bytes.
func Encode(w Weights) ([]byte, api.Errno) {
	leaves, e := Leaves(w)
	if e != api.OK {
		return nil, e
	}
	return codec.Join(leaves...), api.OK
}

// Parse is the model of bytes.
func Parse(b []byte) (Weights, api.Errno) {
	leaves, e := codec.Split(b)
	if e != api.OK || len(leaves) < headLeaves {
		return Weights{}, api.ErrForm
	}
	w, e := parseHead(leaves[0])
	if e != api.OK {
		return Weights{}, e
	}
	if e = w.read(leaves[headLeaves:]...); e != api.OK {
		return Weights{}, e
	}
	if e = Check(w); e != api.OK {
		return Weights{}, e
	}
	return w, api.OK
}

// read fills the blocks of a model that has sizes that may be with rows, a leaf each.
func (w *Weights) read(leaves ...[]byte) api.Errno {
	many, e := w.Config.Many()
	if e != api.OK || len(leaves) != many-headLeaves {
		return api.ErrForm
	}
	w.Layers = make([]Layer, w.Config.Layers)
blocks:
	for b := range w.Config.blocks() {
		for _, leaf := range leaves[:b.rows] {
			var row []int
			if row, e = parseNumbers(leaf, b.cols); e != api.OK {
				break blocks
			}
			b.add(w, row)
		}
		leaves = leaves[b.rows:]
	}
	return e
}

// parseNumbers is so many numbers of a leaf.
func parseNumbers(leaf []byte, many int) ([]int, api.Errno) {
	l, e := codec.Ints(leaf)
	if e != api.OK || len(l) != many {
		return nil, api.ErrForm
	}
	return l, api.OK
}

// encodeHead is the first leaf.
func encodeHead(w Weights) []byte {
	c := w.Config
	var pairs []int
	for _, p := range w.Pairs {
		pairs = append(pairs, p.A, p.B)
	}
	return codec.Join(codec.Numbers(c.Vocab, c.Dim, c.Heads, c.Layers, c.Ctx, c.Hidden), w.Alphabet, codec.Numbers(pairs...))
}

// parseHead is a model that has the sizes, alphabet and pairs of a first leaf, and nothing else.
func parseHead(leaf []byte) (Weights, api.Errno) {
	pieces, e := codec.Split(leaf)
	if e != api.OK || len(pieces) != headPieces {
		return Weights{}, api.ErrForm
	}
	c, sizesError := parseConfig(pieces[0])
	pairs, pairsError := parsePairs(pieces[2])
	if sizesError != api.OK || pairsError != api.OK {
		return Weights{}, api.ErrForm
	}
	return Weights{Config: c, Alphabet: pieces[1], Pairs: pairs}, api.OK
}

// parseConfig is sizes of bytes.
func parseConfig(b []byte) (Config, api.Errno) {
	l, e := parseNumbers(b, sizeCount)
	if e != api.OK {
		return Config{}, e
	}
	return Config{Vocab: l[0], Dim: l[1], Heads: l[2], Layers: l[3], Ctx: l[4], Hidden: l[5]}, api.OK
}

// parsePairs is pairs of bytes.
func parsePairs(b []byte) ([]bpe.Pair, api.Errno) {
	l, e := codec.Ints(b)
	if e != api.OK || len(l)%2 != 0 {
		return nil, api.ErrForm
	}
	pairs := make([]bpe.Pair, len(l)/2)
	for i := range pairs {
		pairs[i] = bpe.Pair{A: l[2*i], B: l[2*i+1]}
	}
	return pairs, api.OK
}
