package trace_test

import (
	"bytes"
	"slices"

	"cupel/api"
	"cupel/bpe"
	"cupel/model"
	"cupel/tensor"
	"cupel/weights"
)

const (
	one       = 1 << 16
	high      = 1<<31 - 1 // the greatest number
	maxWeight = 1 << 24
)

// Sizes that differ from each other, so that none can be mistaken for another one.
var (
	least  = weights.Config{Vocab: 1, Dim: 2, Heads: 1, Layers: 1, Ctx: 2, Hidden: 1}
	small  = weights.Config{Vocab: 5, Dim: 2, Heads: 1, Layers: 1, Ctx: 8, Hidden: 3}
	middle = weights.Config{Vocab: 7, Dim: 4, Heads: 2, Layers: 3, Ctx: 9, Hidden: 5}
	wide   = weights.Config{Vocab: 12, Dim: 16, Heads: 8, Layers: 2, Ctx: 10, Hidden: 6}
	deep   = weights.Config{Vocab: 20, Dim: 12, Heads: 3, Layers: 4, Ctx: 24, Hidden: 7}
	long   = weights.Config{Vocab: 3, Dim: 6, Heads: 1, Layers: 2, Ctx: 64, Hidden: 2}
	thick  = weights.Config{Vocab: 33, Dim: 64, Heads: 1, Layers: 1, Ctx: 5, Hidden: 64}
	most   = weights.Config{Vocab: 512, Dim: 64, Heads: 8, Layers: 4, Ctx: 64, Hidden: 64}
)

// tokens is an alphabet and pairs of so many tokens.
func tokens(many int) ([]byte, []bpe.Pair) {
	n := min((many+1)/2, 32)
	alphabet := make([]byte, n)
	for i := range alphabet {
		alphabet[i] = byte(250 - 7*i)
	}
	var pairs []bpe.Pair
	for i := range many - n {
		pairs = append(pairs, bpe.Pair{A: i / n, B: i % n})
	}
	return alphabet, pairs
}

// lists is where all numbers of a model stand, in order.
func lists(w *weights.Weights) []*[]int {
	l := []*[]int{&w.Embed.L}
	for i := range w.Layers {
		y := &w.Layers[i]
		l = append(l, &y.Norm1, &y.Query.L, &y.Key.L, &y.Value.L, &y.Output.L, &y.Norm2, &y.Gate.L, &y.Up.L, &y.Down.L)
	}
	return append(l, &w.Norm, &w.Out.L)
}

// zeros is a model of these sizes, of nothing but 0.
func zeros(c weights.Config) weights.Weights {
	matrix := func(rows, cols int) tensor.Matrix { return filled(rows, cols, 0) }
	w := weights.Weights{Config: c, Embed: matrix(c.Vocab, c.Dim), Norm: make([]int, c.Dim), Out: matrix(c.Vocab, c.Dim)}
	w.Alphabet, w.Pairs = tokens(c.Vocab)
	for range c.Layers {
		w.Layers = append(w.Layers, weights.Layer{
			Norm1: make([]int, c.Dim), Query: matrix(c.Dim, c.Dim), Key: matrix(c.Dim, c.Dim), Value: matrix(c.Dim, c.Dim), Output: matrix(c.Dim, c.Dim),
			Norm2: make([]int, c.Dim), Gate: matrix(c.Hidden, c.Dim), Up: matrix(c.Hidden, c.Dim), Down: matrix(c.Dim, c.Hidden),
		})
	}
	return w
}

// filled is a matrix of the same number again and again.
func filled(rows, cols, n int) tensor.Matrix {
	return tensor.Matrix{Rows: rows, Cols: cols, L: slices.Repeat([]int{n}, rows*cols)}
}

// made is a model of these sizes, with numbers from -span to span that any other program can make, too.
func made(c weights.Config, seed uint64, span int) weights.Weights {
	w := zeros(c)
	for _, l := range lists(&w) {
		for i := range *l {
			seed = seed*6364136223846793005 + 1442695040888963407
			(*l)[i] = int(seed>>33)%(2*span+1) - span
		}
	}
	return w
}

// calm is a model of the middle sizes in which nothing comes to a number that is none: behind tokens 0 and 1 all is 0.
func calm() weights.Weights {
	w := zeros(middle)
	copy(w.Embed.L, []int{4 * one, 0, 0, 0, one, one, one, one})
	for i := range w.Layers {
		w.Layers[i].Norm1, w.Layers[i].Norm2 = slices.Repeat([]int{one}, 4), slices.Repeat([]int{one}, 4)
	}
	w.Norm = slices.Repeat([]int{one}, 4)
	return w
}

// seedOf is a seed of the same byte again and again.
func seedOf(b byte) api.Digest { return api.Digest(bytes.Repeat([]byte{b}, 32)) }

// everyThird is so many tokens.
func everyThird(many, vocab int) []int {
	l := make([]int, many)
	for i := range l {
		l[i] = (3*i + 1) % vocab
	}
	return l
}

// run is a model and what is asked of it.
type run struct {
	w weights.Weights
	a model.Ask
}

// runOf is one of a made model.
func runOf(c weights.Config, number uint64, span, prompt int, seed byte, k, limit int) run {
	return run{made(c, number, span), model.Ask{Prompt: everyThird(prompt, c.Vocab), Seed: seedOf(seed), K: k, Limit: limit}}
}

// someRuns is runs of all kinds: of one layer and of several, of one head and of several, of short prompts and of long ones, greedy and drawn.
func someRuns() []run {
	return []run{
		runOf(least, 6, 3*one, 1, 0, 1, 1),
		runOf(small, 1, 2*one, 1, 3, 2, 7), runOf(small, 1, 2*one, 7, 1, 5, 1), runOf(small, 1, 2*one, 2, 1, 1, 3), runOf(small, 1, 2*one, 1, 4, 5, 1),
		runOf(middle, 2, 2*one, 2, 1, 7, 3), runOf(middle, 2, 2*one, 8, 1, 7, 1), runOf(middle, 2, 2*one, 1, 0, 1, 4),
		runOf(wide, 3, one, 3, 1, 12, 2), runOf(deep, 4, one, 2, 1, 20, 2), runOf(thick, 8, one/2, 1, 1, 33, 2),
	}
}

// farRuns is runs that end with an error of a step, at the first places and behind tokens that came.
func farRuns() []run {
	l := []run{
		runOf(middle, 2, 256*one, 2, 1, 7, 7), runOf(middle, 10, 3*one, 2, 1, 7, 7), runOf(middle, 2, 3*one, 2, 1, 7, 7),
		runOf(small, 4, 8*one, 2, 1, 5, 6), runOf(small, 13, 200*one, 2, 1, 5, 6), runOf(wide, 12, 32*one, 3, 1, 12, 7),
	}
	// The first step of all that may have an error, and the last one.
	first := run{calm(), model.Ask{Prompt: []int{0}, K: 1, Limit: 1}}
	first.w.Layers[0].Norm1 = slices.Repeat([]int{high}, 4)
	last := run{calm(), model.Ask{Prompt: []int{1}, K: 1, Limit: 1}}
	last.w.Norm[3], last.w.Out.L[27] = high, maxWeight
	return append(l, first, last)
}
