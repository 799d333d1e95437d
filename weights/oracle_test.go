package weights_test

import (
	"crypto/sha256"
	"encoding/binary"
	"fmt"
	"math"
	"math/rand/v2"
	"slices"
	"testing"

	"cupel/api"
	"cupel/bpe"
	"cupel/tensor"
	"cupel/weights"
)

// This file tells the chapter's words once more, to hold the package against them.

const (
	low       = -1 << 31  // the least number
	high      = 1<<31 - 1 // the greatest one
	mostKinds = 12
	maxWeight = 1 << 24
)

// small is the chapter's example.
var small = weights.Config{Vocab: 3, Dim: 2, Heads: 1, Layers: 1, Ctx: 4, Hidden: 1}

// least and greatest are sizes than which there are none.
var (
	least    = weights.Config{Vocab: 1, Dim: 2, Heads: 1, Layers: 1, Ctx: 1, Hidden: 1}
	greatest = weights.Config{Vocab: 512, Dim: 64, Heads: 8, Layers: 4, Ctx: 64, Hidden: 64}
)

// middle has no two sizes that are the same, so that no two of them can be mistaken for each other.
var middle = weights.Config{Vocab: 7, Dim: 4, Heads: 2, Layers: 3, Ctx: 9, Hidden: 5}

// someConfigs is sizes that may be.
func someConfigs() []weights.Config {
	return []weights.Config{
		least, small, middle, {Vocab: 1, Dim: 16, Heads: 8, Layers: 4, Ctx: 64, Hidden: 1}, {Vocab: 2, Dim: 2, Heads: 1, Layers: 2, Ctx: 2, Hidden: 64},
		{Vocab: 40, Dim: 12, Heads: 3, Layers: 1, Ctx: 1, Hidden: 2}, {Vocab: 5, Dim: 10, Heads: 5, Layers: 4, Ctx: 17, Hidden: 10}, {Vocab: 4, Dim: 4, Heads: 1, Layers: 4, Ctx: 4, Hidden: 4},
		{Vocab: 512, Dim: 2, Heads: 1, Layers: 1, Ctx: 64, Hidden: 3}, {Vocab: 3, Dim: 64, Heads: 8, Layers: 1, Ctx: 3, Hidden: 7},
	}
}

// sizesOf is where the sizes of a Config stand, with the least and the greatest that each may be.
func sizesOf(c *weights.Config) []size {
	return []size{{&c.Vocab, 1, 512}, {&c.Dim, 2, 64}, {&c.Heads, 1, 8}, {&c.Layers, 1, 4}, {&c.Ctx, 1, 64}, {&c.Hidden, 1, 64}}
}

type size struct {
	n           *int
	least, most int
}

func wantConfig(c weights.Config) api.Errno {
	for _, s := range sizesOf(&c) {
		if *s.n < s.least || *s.n > s.most {
			return api.ErrRange
		}
	}
	for n := 2 * c.Heads; n <= c.Dim; n += 2 * c.Heads {
		if n == c.Dim {
			return api.OK
		}
	}
	return api.ErrSize
}

func wantMany(c weights.Config) (int, api.Errno) {
	if e := wantConfig(c); e != api.OK {
		return 0, e
	}
	return 1 + c.Vocab + c.Layers*(1+4*c.Dim+1+2*c.Hidden+c.Dim) + 1 + c.Vocab, api.OK
}

// rowsOf is how many rows a kind has.
func rowsOf(c weights.Config, kind int) int {
	switch kind {
	case weights.Embed, weights.Out:
		return c.Vocab
	case weights.Query, weights.Key, weights.Value, weights.Output, weights.Down:
		return c.Dim
	case weights.Gate, weights.Up:
		return c.Hidden
	}
	return 1
}

// isOfLayer tells of which kinds each layer has one.
func isOfLayer(kind int) bool {
	return kind != weights.Embed && kind != weights.Norm && kind != weights.Out
}

// allParts is all parts there are, in order.
func allParts(c weights.Config) []weights.Part {
	var l []weights.Part
	add := func(layer int, kinds ...int) {
		for _, kind := range kinds {
			for row := range rowsOf(c, kind) {
				l = append(l, weights.Part{Kind: kind, Layer: layer, Row: row})
			}
		}
	}
	add(0, weights.Embed)
	for layer := range c.Layers {
		add(layer, weights.Norm1, weights.Query, weights.Key, weights.Value, weights.Output, weights.Norm2, weights.Gate, weights.Up, weights.Down)
	}
	add(0, weights.Norm, weights.Out)
	return l
}

func wantPlace(c weights.Config, p weights.Part) (int, api.Errno) {
	if e := wantConfig(c); e != api.OK {
		return 0, e
	}
	i := slices.Index(allParts(c), p)
	if i < 0 {
		return 0, api.ErrRange
	}
	return 1 + i, api.OK
}

// stand is a vector or a matrix of a model, and the rows and columns that it has to have.
type stand struct {
	vector     *[]int
	matrix     *tensor.Matrix
	rows, cols int
}

// list is the numbers.
func (s stand) list() *[]int {
	if s.matrix == nil {
		return s.vector
	}
	return &s.matrix.L
}

// edges is the least number that may stand there, and the greatest one.
func (s stand) edges() (least, most int) {
	if s.matrix == nil {
		return low, high
	}
	return -maxWeight, maxWeight
}

// stands is all vectors and matrices of a model, in order.
func stands(w *weights.Weights) []stand {
	c := w.Config
	l := []stand{{matrix: &w.Embed, rows: c.Vocab, cols: c.Dim}}
	for i := range w.Layers {
		y := &w.Layers[i]
		l = append(l, stand{vector: &y.Norm1, rows: 1, cols: c.Dim})
		for _, m := range []*tensor.Matrix{&y.Query, &y.Key, &y.Value, &y.Output} {
			l = append(l, stand{matrix: m, rows: c.Dim, cols: c.Dim})
		}
		l = append(l, stand{vector: &y.Norm2, rows: 1, cols: c.Dim}, stand{matrix: &y.Gate, rows: c.Hidden, cols: c.Dim}, stand{matrix: &y.Up, rows: c.Hidden, cols: c.Dim}, stand{matrix: &y.Down, rows: c.Dim, cols: c.Hidden})
	}
	return append(l, stand{vector: &w.Norm, rows: 1, cols: c.Dim}, stand{matrix: &w.Out, rows: c.Vocab, cols: c.Dim})
}

// wrong is the error of a vector or a matrix.
func (s stand) wrong() api.Errno {
	if s.matrix == nil {
		if len(*s.vector) != s.cols {
			return api.ErrSize
		}
	} else if s.matrix.Rows != s.rows || s.matrix.Cols != s.cols || len(s.matrix.L) != s.rows*s.cols {
		return api.ErrSize
	}
	least, most := s.edges()
	if slices.Min(*s.list()) < least || slices.Max(*s.list()) > most {
		return api.ErrRange
	}
	return api.OK
}

func wantCheck(w weights.Weights) api.Errno {
	if e := wantConfig(w.Config); e != api.OK {
		return e
	}
	if _, e := bpe.New(w.Alphabet, w.Pairs...); e != api.OK {
		return e
	}
	if len(w.Alphabet)+len(w.Pairs) != w.Config.Vocab || len(w.Layers) != w.Config.Layers {
		return api.ErrSize
	}
	for _, s := range stands(&w) {
		if e := s.wrong(); e != api.OK {
			return e
		}
	}
	return api.OK
}

// written is numbers as bytes.
func written(l ...int) []byte {
	var b []byte
	for _, n := range l {
		b = binary.BigEndian.AppendUint64(b, uint64(n))
	}
	return b
}

// joined is pieces as bytes.
func joined(l ...[]byte) []byte {
	var b []byte
	for _, piece := range l {
		b = append(binary.BigEndian.AppendUint32(b, uint32(len(piece))), piece...)
	}
	return b
}

// head is the first leaf, whether that may be or not.
func head(w weights.Weights) []byte {
	var pairs []int
	for _, p := range w.Pairs {
		pairs = append(pairs, p.A, p.B)
	}
	c := w.Config
	return joined(written(c.Vocab, c.Dim, c.Heads, c.Layers, c.Ctx, c.Hidden), w.Alphabet, written(pairs...))
}

// wantLeaves is the leaves of a model that may be, or may not be for its numbers alone.
func wantLeaves(w weights.Weights) [][]byte {
	leaves := [][]byte{head(w)}
	for _, s := range stands(&w) {
		for i := range s.rows {
			leaves = append(leaves, written((*s.list())[i*s.cols:(i+1)*s.cols]...))
		}
	}
	return leaves
}

func wantEncode(w weights.Weights) []byte { return joined(wantLeaves(w)...) }

func wantRoot(leaves [][]byte) api.Digest {
	if len(leaves) == 1 {
		return sha256.Sum256(append([]byte{0}, leaves[0]...))
	}
	k := 1
	for 2*k < len(leaves) {
		k *= 2
	}
	a, b := wantRoot(leaves[:k]), wantRoot(leaves[k:])
	return sha256.Sum256(slices.Concat([]byte{1}, a[:], b[:]))
}

// readPieces is the pieces of bytes, if they are such.
func readPieces(b []byte) ([][]byte, bool) {
	var l [][]byte
	for len(b) > 0 {
		if len(b) < 4 || uint64(binary.BigEndian.Uint32(b)) > uint64(len(b)-4) {
			return nil, false
		}
		end := 4 + int(binary.BigEndian.Uint32(b))
		l, b = append(l, b[4:end]), b[end:]
	}
	return l, true
}

// readNumbers is the numbers of bytes, if there are so many; if many is below 0, an even number of them.
func readNumbers(b []byte, many int) ([]int, bool) {
	if len(b)%8 != 0 || many >= 0 && len(b) != 8*many || many < 0 && len(b)%16 != 0 {
		return nil, false
	}
	var l []int
	for ; len(b) > 0; b = b[8:] {
		l = append(l, int(binary.BigEndian.Uint64(b)))
	}
	return l, true
}

// readHead is the model of a first leaf, with its layers, and without numbers.
func readHead(leaf []byte) (w weights.Weights, is bool) {
	pieces, is := readPieces(leaf)
	if !is || len(pieces) != 3 {
		return w, false
	}
	sizes, isSizes := readNumbers(pieces[0], 6)
	pairs, isPairs := readNumbers(pieces[2], -1)
	if !isSizes || !isPairs {
		return w, false
	}
	for i, s := range sizesOf(&w.Config) {
		*s.n = sizes[i]
	}
	for i := 0; i < len(pairs); i += 2 {
		w.Pairs = append(w.Pairs, bpe.Pair{A: pairs[i], B: pairs[i+1]})
	}
	w.Alphabet = slices.Clone(pieces[1])
	if wantConfig(w.Config) != api.OK {
		return w, false
	}
	w.Layers = make([]weights.Layer, w.Config.Layers)
	return w, true
}

func wantParse(b []byte) (weights.Weights, api.Errno) {
	leaves, is := readPieces(b)
	if !is || len(leaves) == 0 {
		return weights.Weights{}, api.ErrForm
	}
	w, is := readHead(leaves[0])
	if many, _ := wantMany(w.Config); !is || len(leaves) != many {
		return weights.Weights{}, api.ErrForm
	}
	rest := leaves[1:]
	for _, s := range stands(&w) {
		if s.matrix != nil {
			s.matrix.Rows, s.matrix.Cols = s.rows, s.cols
		}
		for _, leaf := range rest[:s.rows] {
			row, is := readNumbers(leaf, s.cols)
			if !is {
				return weights.Weights{}, api.ErrForm
			}
			*s.list() = append(*s.list(), row...)
		}
		rest = rest[s.rows:]
	}
	if e := wantCheck(w); e != api.OK {
		return weights.Weights{}, e
	}
	return w, api.OK
}

// tokens is an alphabet and pairs of so many tokens.
func tokens(many int) ([]byte, []bpe.Pair) {
	n := min((many+1)/2, 32)
	alphabet := make([]byte, n)
	for i := range alphabet {
		alphabet[i] = byte(250 - 7*i)
	}
	var pairs []bpe.Pair
	for i := range many - n {
		pairs = append(pairs, bpe.Pair{A: i / n, B: i % n})
	}
	return alphabet, pairs
}

// newChance is numbers of all kinds, the same in each run.
func newChance(seed uint64) *rand.Rand { return rand.New(rand.NewPCG(seed, 10)) }

// model is one of these sizes, which may be, the same for the same seed; its numbers are of all lengths, at times the least or the greatest.
func model(c weights.Config, seed uint64) weights.Weights {
	w := weights.Weights{Config: c, Layers: make([]weights.Layer, c.Layers)}
	w.Alphabet, w.Pairs = tokens(c.Vocab)
	chance := newChance(seed)
	for _, s := range stands(&w) {
		if s.matrix != nil {
			s.matrix.Rows, s.matrix.Cols = s.rows, s.cols
		}
		least, most := s.edges()
		for range s.rows * s.cols {
			n := (least + chance.IntN(most-least+1)) >> chance.IntN(32)
			switch chance.IntN(32) {
			case 0:
				n = least
			case 1:
				n = most
			}
			*s.list() = append(*s.list(), n)
		}
	}
	return w
}

// some is models that may be.
func some() []weights.Weights {
	var l []weights.Weights
	for i, c := range someConfigs() {
		l = append(l, model(c, uint64(i)), model(c, uint64(100+i)))
	}
	return l
}

// same tells whether two models are the same; a list of nothing is so, whether it is nil or not.
func same(a, b weights.Weights) bool { return fmt.Sprint(a) == fmt.Sprint(b) }

// isNothing tells whether a model is what is answered with an error.
func isNothing(w weights.Weights) bool { return same(w, weights.Weights{}) }

// farNumbers is numbers far from all that may be.
func farNumbers() []int {
	return []int{math.MinInt, math.MinInt + 1, math.MinInt + 64, -1 << 32, -1<<32 + 2, -1 << 31, -65536, -256, -3, -2, -1, 513, 1000, 65536, 65538, 1 << 31, 1 << 32, 1<<32 + 1, 1<<32 + 2, 1<<32 + 8, math.MaxInt - 1, math.MaxInt}
}

// refuse holds all calls that take a model to an error, and to nothing beside it.
func refuse(t *testing.T, what string, w weights.Weights, e api.Errno) {
	t.Helper()
	if is := weights.Check(w); is != e {
		t.Errorf("%s: Check: %d, not %d", what, int(is), int(e))
	}
	if l, is := weights.Leaves(w); len(l) != 0 || is != e {
		t.Errorf("%s: Leaves: %d, %d, not %d", what, len(l), int(is), int(e))
	}
	if d, is := weights.Root(w); d != (api.Digest{}) || is != e {
		t.Errorf("%s: Root: %x, %d, not %d", what, d, int(is), int(e))
	}
	if b, is := weights.Encode(w); len(b) != 0 || is != e {
		t.Errorf("%s: Encode: %d, %d, not %d", what, len(b), int(is), int(e))
	}
}

// holds holds all calls that take a model to what is wanted of one that may be.
func holds(t *testing.T, what string, w weights.Weights) {
	t.Helper()
	if e := weights.Check(w); e != api.OK {
		t.Fatalf("%s: Check: %d", what, int(e))
	}
	want := wantLeaves(w)
	if l, e := weights.Leaves(w); e != api.OK || !slices.EqualFunc(l, want, slices.Equal) {
		t.Errorf("%s: Leaves: %d %d", what, len(l), int(e))
	}
	if d, e := weights.Root(w); e != api.OK || d != wantRoot(want) {
		t.Errorf("%s: Root: %x %d", what, d, int(e))
	}
	if b, e := weights.Encode(w); e != api.OK || !slices.Equal(b, joined(want...)) {
		t.Errorf("%s: Encode: %d %d", what, len(b), int(e))
	}
}
