package model_test

import (
	"fmt"
	"math"
	"math/rand/v2"
	"slices"
	"testing"

	"cupel/api"
	"cupel/bpe"
	"cupel/draw"
	"cupel/fixed"
	"cupel/model"
	"cupel/tensor"
	"cupel/weights"
)

// This file tells the chapter's words once more, to hold the package against them.

const (
	one       = 1 << 16
	low       = -1 << 31  // the least number
	high      = 1<<31 - 1 // the greatest one
	maxWeight = 1 << 24
)

// got leaves with an error, if there is one.
func got[T any](x T, e api.Errno) T {
	need(e == api.OK, e)
	return x
}

// need leaves with an error, if something does not hold.
func need(holds bool, e api.Errno) {
	if !holds {
		panic(e)
	}
}

// told is what f tells, or the error with which it left.
func told[T any](f func() T) (x T, e api.Errno) {
	defer func() {
		switch left := recover().(type) {
		case nil:
		case api.Errno:
			e = left
		default:
			panic(left)
		}
	}()
	return f(), api.OK
}

func tellScore(q, k []int) int {
	need(len(q) == len(k) && len(q) > 0, api.ErrSize)
	sum := 0
	for i := range q {
		sum = got(fixed.Add(sum, got(fixed.Mul(q[i], k[i]))))
	}
	return got(fixed.Div(sum, got(fixed.Root(len(q)*one))))
}

// part is the h-th of so many parts of a vector.
func part(v []int, h, heads int) []int {
	n := len(v) / heads
	return slices.Clone(v[h*n : h*n+n])
}

func tellAttend(q []int, keys, values [][]int, heads int) []int {
	need(heads >= 1 && len(q) >= heads && len(q)%heads == 0, api.ErrSize)
	need(len(keys) == len(values) && len(keys) > 0, api.ErrSize)
	for i := range keys {
		need(len(keys[i]) == len(q) && len(values[i]) == len(q), api.ErrSize)
	}
	var all []int
	for h := range heads {
		var scores []int
		var l [][]int
		for i := range keys {
			scores = append(scores, tellScore(part(q, h, heads), part(keys[i], h, heads)))
			l = append(l, part(values[i], h, heads))
		}
		all = append(all, got(tensor.Mix(got(tensor.Softmax(scores)), l...))...)
	}
	return all
}

func tellFeed(h []int, l weights.Layer) []int {
	var gates []int
	for _, n := range got(tensor.Mul(l.Gate, h)) {
		gates = append(gates, got(fixed.Gate(n)))
	}
	ups := got(tensor.Mul(l.Up, h))
	need(len(gates) == len(ups), api.ErrSize)
	for i := range gates {
		gates[i] = got(fixed.Mul(gates[i], ups[i]))
	}
	return got(tensor.Mul(l.Down, gates))
}

// turned is a vector of which each head's part is turned.
func turned(v []int, heads, at int) []int {
	var all []int
	for h := range heads {
		all = append(all, got(tensor.Rotate(part(v, h, heads), at))...)
	}
	return all
}

// behind is what Forward answers.
type behind struct {
	numbers []int
	past    model.Past
}

func tellForward(w weights.Weights, token int, p model.Past) behind {
	got(0, weights.Check(w))
	need(len(p.Layers) == len(w.Layers), api.ErrSize)
	at := len(p.Layers[0].Keys)
	for _, c := range p.Layers {
		need(len(c.Keys) == at && len(c.Values) == at, api.ErrSize)
	}
	need(token >= 0 && token < w.Config.Vocab, api.ErrRange)
	need(at != w.Config.Ctx, api.ErrLong)
	heads := w.Config.Heads
	past := clonePast(p)
	x := got(w.Embed.Row(token))
	for i, l := range w.Layers {
		c := &past.Layers[i]
		h := got(tensor.Norm(x, l.Norm1))
		q := got(tensor.Mul(l.Query, h))
		k := got(tensor.Mul(l.Key, h))
		v := got(tensor.Mul(l.Value, h))
		q = turned(q, heads, at)
		k = turned(k, heads, at)
		c.Keys, c.Values = append(c.Keys, k), append(c.Values, v)
		a := tellAttend(q, c.Keys, c.Values, heads)
		x = got(tensor.Add(x, got(tensor.Mul(l.Output, a))))
		h = got(tensor.Norm(x, l.Norm2))
		x = got(tensor.Add(x, tellFeed(h, l)))
	}
	return behind{got(tensor.Mul(w.Out, got(tensor.Norm(x, w.Norm)))), past}
}

func tellCheck(c weights.Config, a model.Ask) int {
	got(0, c.Check())
	need(len(a.Prompt) > 0 && a.Limit >= 1, api.ErrSize)
	need(a.Limit <= 64 && len(a.Prompt)+a.Limit <= c.Ctx, api.ErrLong)
	for _, token := range a.Prompt {
		need(0 <= token && token < c.Vocab, api.ErrRange)
	}
	need(1 <= a.K && a.K <= c.Vocab, api.ErrRange)
	return 0
}

func tellComplete(w weights.Weights, a model.Ask) []int {
	got(0, weights.Check(w))
	tellCheck(w.Config, a)
	b := behind{past: model.Past{Layers: make([]model.Cache, w.Config.Layers)}}
	for _, token := range a.Prompt {
		b = tellForward(w, token, b.past)
	}
	s := got(draw.New(a.Seed, 0))
	var l []int
	for {
		token := got(s.Pick(b.numbers, a.K))
		l = append(l, token)
		if len(l) == a.Limit || slices.Contains(a.Stop, token) {
			return l
		}
		b = tellForward(w, token, b.past)
	}
}

func clonePast(p model.Past) model.Past {
	clone := model.Past{Layers: make([]model.Cache, len(p.Layers))}
	for i, c := range p.Layers {
		for _, k := range c.Keys {
			clone.Layers[i].Keys = append(clone.Layers[i].Keys, slices.Clone(k))
		}
		for _, v := range c.Values {
			clone.Layers[i].Values = append(clone.Layers[i].Values, slices.Clone(v))
		}
	}
	return clone
}

// samePast tells whether two pasts are the same; a list of nothing is so, whether it is nil or not.
func samePast(a, b model.Past) bool { return fmt.Sprint(a) == fmt.Sprint(b) }

// holdScore holds Score against what is told here.
func holdScore(t *testing.T, q, k []int) {
	t.Helper()
	want, wrong := told(func() int { return tellScore(q, k) })
	if n, e := model.Score(q, k); n != want || e != wrong {
		t.Errorf("Score %v %v: %d %d, not %d %d", q, k, n, int(e), want, int(wrong))
	}
}

func holdAttend(t *testing.T, q []int, keys, values [][]int, heads int) {
	t.Helper()
	want, wrong := told(func() []int { return tellAttend(q, keys, values, heads) })
	if l, e := model.Attend(q, keys, values, heads); !slices.Equal(l, want) || e != wrong {
		t.Errorf("Attend %v %v %v %d: %v %d, not %v %d", q, keys, values, heads, l, int(e), want, int(wrong))
	}
}

func holdFeed(t *testing.T, h []int, l weights.Layer) {
	t.Helper()
	want, wrong := told(func() []int { return tellFeed(h, l) })
	if fed, e := model.Feed(h, l); !slices.Equal(fed, want) || e != wrong {
		t.Errorf("Feed %v: %v %d, not %v %d", h, fed, int(e), want, int(wrong))
	}
}

// holdForward is also the past behind it, or the one that it was handed, with an error.
func holdForward(t *testing.T, w weights.Weights, token int, p model.Past) (model.Past, api.Errno) {
	t.Helper()
	want, wrong := told(func() behind { return tellForward(w, token, p) })
	before := clonePast(p)
	l, past, e := model.Forward(w, token, p)
	if !slices.Equal(l, want.numbers) || !samePast(past, want.past) || e != wrong {
		t.Errorf("Forward %v %d at %d: %v %d, not %v %d; the past is right: %v", w.Config, token, p.Len(), l, int(e), want.numbers, int(wrong), samePast(past, want.past))
	}
	if !samePast(p, before) {
		t.Errorf("Forward %v %d at %d: the past is turned", w.Config, token, p.Len())
	}
	if e != api.OK {
		return p, e
	}
	return past, e
}

func holdComplete(t *testing.T, w weights.Weights, a model.Ask) []int {
	t.Helper()
	want, wrong := told(func() []int { return tellComplete(w, a) })
	l, e := model.Complete(w, a)
	if !slices.Equal(l, want) || e != wrong {
		t.Errorf("Complete %v %v: %v %d, not %v %d", w.Config, a, l, int(e), want, int(wrong))
	}
	return l
}

// tokens is an alphabet and pairs of so many tokens.
func tokens(many int) ([]byte, []bpe.Pair) {
	n := min((many+1)/2, 32)
	alphabet := make([]byte, n)
	for i := range alphabet {
		alphabet[i] = byte(250 - 7*i)
	}
	var pairs []bpe.Pair
	for i := range many - n {
		pairs = append(pairs, bpe.Pair{A: i / n, B: i % n})
	}
	return alphabet, pairs
}

// lists is where all numbers of a model stand, in order, and how many there have to be of each.
func lists(w *weights.Weights) []list {
	c := w.Config
	matrix := func(m *tensor.Matrix, rows, cols int) list {
		m.Rows, m.Cols = rows, cols
		return list{&m.L, rows * cols}
	}
	l := []list{matrix(&w.Embed, c.Vocab, c.Dim)}
	for i := range w.Layers {
		y := &w.Layers[i]
		l = append(l, list{&y.Norm1, c.Dim})
		for _, m := range []*tensor.Matrix{&y.Query, &y.Key, &y.Value, &y.Output} {
			l = append(l, matrix(m, c.Dim, c.Dim))
		}
		l = append(l, list{&y.Norm2, c.Dim}, matrix(&y.Gate, c.Hidden, c.Dim), matrix(&y.Up, c.Hidden, c.Dim), matrix(&y.Down, c.Dim, c.Hidden))
	}
	return append(l, list{&w.Norm, c.Dim}, matrix(&w.Out, c.Vocab, c.Dim))
}

type list struct {
	l    *[]int
	many int
}

// made is a model of these sizes, with numbers from -span to span that any other program can make, too.
func made(c weights.Config, seed uint64, span int) weights.Weights {
	w := weights.Weights{Config: c, Layers: make([]weights.Layer, c.Layers)}
	w.Alphabet, w.Pairs = tokens(c.Vocab)
	for _, y := range lists(&w) {
		for range y.many {
			seed = seed*6364136223846793005 + 1442695040888963407
			*y.l = append(*y.l, int(seed>>33)%(2*span+1)-span)
		}
	}
	return w
}

// cloned is the same model in memory of its own.
func cloned(w weights.Weights) weights.Weights {
	w.Alphabet, w.Pairs, w.Layers = slices.Clone(w.Alphabet), slices.Clone(w.Pairs), slices.Clone(w.Layers)
	for _, y := range lists(&w) {
		*y.l = slices.Clone(*y.l)
	}
	return w
}

// Sizes that differ from each other, so that none can be mistaken for another one.
var (
	small  = weights.Config{Vocab: 5, Dim: 2, Heads: 1, Layers: 1, Ctx: 8, Hidden: 3}
	middle = weights.Config{Vocab: 7, Dim: 4, Heads: 2, Layers: 3, Ctx: 9, Hidden: 5}
)

func someConfigs() []weights.Config {
	return []weights.Config{
		small, middle, {Vocab: 1, Dim: 2, Heads: 1, Layers: 1, Ctx: 2, Hidden: 1}, {Vocab: 12, Dim: 16, Heads: 8, Layers: 2, Ctx: 10, Hidden: 6}, {Vocab: 20, Dim: 12, Heads: 3, Layers: 4, Ctx: 24, Hidden: 7},
		{Vocab: 3, Dim: 6, Heads: 1, Layers: 2, Ctx: 64, Hidden: 2}, {Vocab: 33, Dim: 64, Heads: 1, Layers: 1, Ctx: 5, Hidden: 64}, {Vocab: 9, Dim: 10, Heads: 5, Layers: 1, Ctx: 6, Hidden: 9}, {Vocab: 4, Dim: 4, Heads: 1, Layers: 4, Ctx: 4, Hidden: 4},
	}
}

// newChance is numbers of all kinds, the same in each run.
func newChance(seed uint64) *rand.Rand { return rand.New(rand.NewPCG(seed, 11)) }

// anyNumber is a number of any length, at times the least or the greatest.
func anyNumber(c *rand.Rand) int {
	switch c.IntN(40) {
	case 0:
		return low
	case 1:
		return high
	}
	return (low + c.IntN(high-low+1)) >> c.IntN(32)
}

// numbers is so many of them below a length of so many bits.
func numbers(c *rand.Rand, many, bits int) []int {
	v := make([]int, many)
	for i := range v {
		v[i] = anyNumber(c) >> (31 - bits)
	}
	return v
}

// vectors is so many vectors of them.
func vectors(c *rand.Rand, many, size, bits int) [][]int {
	l := make([][]int, many)
	for i := range l {
		l[i] = numbers(c, size, bits)
	}
	return l
}

// pastOf is a past of so many places, of numbers that no model has to have made.
func pastOf(c *rand.Rand, of weights.Config, places, bits int) model.Past {
	p := model.Past{Layers: make([]model.Cache, of.Layers)}
	for i := range p.Layers {
		p.Layers[i] = model.Cache{Keys: vectors(c, places, of.Dim, bits), Values: vectors(c, places, of.Dim, bits)}
	}
	return p
}

// behindTokens is the past behind tokens.
func behindTokens(t *testing.T, w weights.Weights, tokens ...int) model.Past {
	t.Helper()
	p := model.Empty(w.Config)
	for _, token := range tokens {
		_, next, e := model.Forward(w, token, p)
		if e != api.OK {
			t.Fatalf("Forward %d: %d", token, int(e))
		}
		p = next
	}
	return p
}

// farNumbers is numbers far from all that may be.
func farNumbers() []int {
	return []int{math.MinInt, math.MinInt + 1, -1 << 33, low - 1, -65536, -2, -1, 513, 65536, 1 << 31, 1 << 32, 1<<32 + 1, math.MaxInt - 1, math.MaxInt}
}

// notNumbers is what is no number.
func notNumbers() []int {
	return []int{math.MinInt, low - 1, high + 1, 1 << 40, math.MaxInt}
}
