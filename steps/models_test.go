package steps_test

import (
	"bytes"
	"slices"

	"cupel/api"
	"cupel/bpe"
	"cupel/steps"
	"cupel/tensor"
	"cupel/weights"
)

// Sizes that differ from each other, so that none can be mistaken for another one.
var (
	least  = weights.Config{Vocab: 1, Dim: 2, Heads: 1, Layers: 1, Ctx: 2, Hidden: 1}
	small  = weights.Config{Vocab: 5, Dim: 2, Heads: 1, Layers: 1, Ctx: 8, Hidden: 3}
	middle = weights.Config{Vocab: 7, Dim: 4, Heads: 2, Layers: 3, Ctx: 9, Hidden: 5}
	wide   = weights.Config{Vocab: 12, Dim: 16, Heads: 8, Layers: 2, Ctx: 10, Hidden: 6}
	deep   = weights.Config{Vocab: 20, Dim: 12, Heads: 3, Layers: 4, Ctx: 24, Hidden: 7}
	long   = weights.Config{Vocab: 3, Dim: 6, Heads: 1, Layers: 2, Ctx: 64, Hidden: 2}
	thick  = weights.Config{Vocab: 33, Dim: 64, Heads: 1, Layers: 1, Ctx: 5, Hidden: 64}
	most   = weights.Config{Vocab: 512, Dim: 64, Heads: 8, Layers: 4, Ctx: 64, Hidden: 64}
)

// example is the chapter's.
func example() steps.Plan {
	return steps.Plan{Config: weights.Config{Vocab: 3, Dim: 2, Heads: 1, Layers: 1, Ctx: 2, Hidden: 2}, Prompt: 1, Limit: 1, K: 1}
}

// right is a plan of the middle sizes, of seven places.
func right() steps.Plan { return steps.Plan{Config: middle, Prompt: 3, Limit: 5, K: 3} }

// somePlans is plans of all kinds that may be.
func somePlans() []steps.Plan {
	return []steps.Plan{
		example(), right(),
		{Config: least, Prompt: 1, Limit: 1, K: 1},
		{Config: small, Prompt: 1, Limit: 1, K: 5}, {Config: small, Prompt: 1, Limit: 7, K: 2}, {Config: small, Prompt: 7, Limit: 1, K: 5}, {Config: small, Prompt: 2, Limit: 3, K: 1},
		{Config: middle, Prompt: 1, Limit: 8, K: 7}, {Config: middle, Prompt: 8, Limit: 1, K: 1}, {Config: middle, Prompt: 2, Limit: 2, K: 2},
		{Config: wide, Prompt: 4, Limit: 3, K: 12}, {Config: deep, Prompt: 2, Limit: 4, K: 6}, {Config: long, Prompt: 3, Limit: 9, K: 3}, {Config: thick, Prompt: 2, Limit: 1, K: 33},
	}
}

// noPlan is a plan that may not be, and why.
type noPlan struct {
	steps.Plan
	e api.Errno
}

func noPlans() []noPlan {
	l := []noPlan{{steps.Plan{}, api.ErrRange}}
	put := func(turn func(p *steps.Plan, n int), e api.Errno, l2 ...int) {
		for _, n := range l2 {
			p := right()
			turn(&p, n)
			l = append(l, noPlan{p, e})
		}
	}
	above := []int{1 << 16, 1 << 31, 1 << 40, 1<<63 - 2, 1<<63 - 1}
	below := []int{0, -1, -7, -1 << 31, -1 << 40, -1 << 63}
	put(func(p *steps.Plan, n int) { p.Config.Vocab = n }, api.ErrRange, slices.Concat(above, below, []int{513})...)
	put(func(p *steps.Plan, n int) { p.Config.Dim = n }, api.ErrRange, slices.Concat(above, below, []int{1, 65})...)
	put(func(p *steps.Plan, n int) { p.Config.Heads = n }, api.ErrRange, slices.Concat(above, below, []int{9})...)
	put(func(p *steps.Plan, n int) { p.Config.Layers = n }, api.ErrRange, slices.Concat(above, below, []int{5})...)
	put(func(p *steps.Plan, n int) { p.Config.Ctx = n }, api.ErrRange, slices.Concat(above, below, []int{65})...)
	put(func(p *steps.Plan, n int) { p.Config.Hidden = n }, api.ErrRange, slices.Concat(above, below, []int{65})...)
	put(func(p *steps.Plan, n int) { p.Config.Heads = n }, api.ErrSize, 3, 4)
	put(func(p *steps.Plan, n int) { p.Config.Dim = n }, api.ErrSize, 2, 5, 6)
	put(func(p *steps.Plan, n int) { p.Prompt = n }, api.ErrSize, below...)
	put(func(p *steps.Plan, n int) { p.Limit = n }, api.ErrSize, below...)
	put(func(p *steps.Plan, n int) { p.Prompt = n }, api.ErrLong, slices.Concat(above, []int{5, 8, 9, 10, 64, 65})...)
	put(func(p *steps.Plan, n int) { p.Limit = n }, api.ErrLong, slices.Concat(above, []int{7, 8, 9, 10, 64, 65})...)
	put(func(p *steps.Plan, n int) { p.Config.Ctx = n }, api.ErrLong, 1, 7)
	put(func(p *steps.Plan, n int) { p.K = n }, api.ErrRange, slices.Concat(above, below, []int{8})...)
	// Which one comes first, of two.
	put(func(p *steps.Plan, n int) { p.Config.Heads, p.Prompt = 3, n }, api.ErrSize, slices.Concat(above, below)...)
	put(func(p *steps.Plan, n int) { p.Config.Ctx, p.Limit = 65, n }, api.ErrRange, slices.Concat(above, below)...)
	put(func(p *steps.Plan, n int) { p.Prompt, p.Limit = n, 0 }, api.ErrSize, slices.Concat(above, below)...)
	put(func(p *steps.Plan, n int) { p.Prompt, p.Limit = 0, n }, api.ErrSize, slices.Concat(above, below)...)
	put(func(p *steps.Plan, n int) { p.Prompt, p.Limit = n, n }, api.ErrLong, above...)
	put(func(p *steps.Plan, n int) { p.Prompt, p.K = n, 0 }, api.ErrLong, slices.Concat(above, []int{5})...)
	put(func(p *steps.Plan, n int) { p.Limit, p.K = n, 8 }, api.ErrSize, below...)
	return l
}

// tokens is an alphabet and pairs of so many tokens.
func tokens(many int) ([]byte, []bpe.Pair) {
	n := min((many+1)/2, 32)
	alphabet := make([]byte, n)
	for i := range alphabet {
		alphabet[i] = byte(250 - 7*i)
	}
	var pairs []bpe.Pair
	for i := range many - n {
		pairs = append(pairs, bpe.Pair{A: i / n, B: i % n})
	}
	return alphabet, pairs
}

// lists is where all numbers of a model stand, in order.
func lists(w *weights.Weights) []*[]int {
	l := []*[]int{&w.Embed.L}
	for i := range w.Layers {
		y := &w.Layers[i]
		l = append(l, &y.Norm1, &y.Query.L, &y.Key.L, &y.Value.L, &y.Output.L, &y.Norm2, &y.Gate.L, &y.Up.L, &y.Down.L)
	}
	return append(l, &w.Norm, &w.Out.L)
}

// zeros is a model of these sizes, of nothing but 0.
func zeros(c weights.Config) weights.Weights {
	matrix := func(rows, cols int) tensor.Matrix { return filled(rows, cols, 0) }
	w := weights.Weights{Config: c, Embed: matrix(c.Vocab, c.Dim), Norm: make([]int, c.Dim), Out: matrix(c.Vocab, c.Dim)}
	w.Alphabet, w.Pairs = tokens(c.Vocab)
	for range c.Layers {
		w.Layers = append(w.Layers, weights.Layer{
			Norm1: make([]int, c.Dim), Query: matrix(c.Dim, c.Dim), Key: matrix(c.Dim, c.Dim), Value: matrix(c.Dim, c.Dim), Output: matrix(c.Dim, c.Dim),
			Norm2: make([]int, c.Dim), Gate: matrix(c.Hidden, c.Dim), Up: matrix(c.Hidden, c.Dim), Down: matrix(c.Dim, c.Hidden),
		})
	}
	return w
}

// filled is a matrix of the same number again and again.
func filled(rows, cols, n int) tensor.Matrix {
	return tensor.Matrix{Rows: rows, Cols: cols, L: slices.Repeat([]int{n}, rows*cols)}
}

// made is a model of these sizes, with numbers from -span to span that any other program can make, too.
func made(c weights.Config, seed uint64, span int) weights.Weights {
	w := zeros(c)
	for _, l := range lists(&w) {
		for i := range *l {
			seed = seed*6364136223846793005 + 1442695040888963407
			(*l)[i] = int(seed>>33)%(2*span+1) - span
		}
	}
	return w
}

// seedOf is a seed of the same byte again and again.
func seedOf(b byte) api.Digest { return api.Digest(bytes.Repeat([]byte{b}, 32)) }

// everyThird is so many tokens.
func everyThird(many, vocab int) []int {
	l := make([]int, many)
	for i := range l {
		l[i] = (3*i + 1) % vocab
	}
	return l
}
