package steps_test

import (
	"math"
	"math/rand/v2"
	"slices"

	"cupel/api"
	"cupel/draw"
	"cupel/fixed"
	"cupel/model"
	"cupel/steps"
	"cupel/tensor"
	"cupel/weights"
)

// This file tells the chapter's words once more, to hold the package against them.

const (
	one       = 1 << 16
	low       = -1 << 31  // the least number
	high      = 1<<31 - 1 // the greatest one
	maxWeight = 1 << 24
)

// got leaves with an error, if there is one.
func got[T any](x T, e api.Errno) T {
	need(e == api.OK, e)
	return x
}

// need leaves with an error, if something does not hold.
func need(holds bool, e api.Errno) {
	if !holds {
		panic(e)
	}
}

// told is what f tells, or the error with which it left.
func told[T any](f func() T) (x T, e api.Errno) {
	defer func() {
		switch left := recover().(type) {
		case nil:
		case api.Errno:
			e = left
		default:
			panic(left)
		}
	}()
	return f(), api.OK
}

// tellCheck leaves with the error of a plan.
func tellCheck(p steps.Plan) int {
	got(0, p.Config.Check())
	need(p.Prompt >= 1 && p.Limit >= 1, api.ErrSize)
	need(p.Prompt <= 64 && p.Limit <= 64 && p.Prompt+p.Limit <= p.Config.Ctx, api.ErrLong)
	need(p.K >= 1 && p.K <= p.Config.Vocab, api.ErrRange)
	return 0
}

// board is all steps and cells of a plan that may be.
type board struct {
	steps.Plan
	l     []steps.Step
	is    map[steps.Step]bool
	sizes []int
	keys  [][]int // the cells of each layer's keys, of each place
	vals  [][]int
}

func boardOf(p steps.Plan) *board {
	tellCheck(p)
	b := &board{Plan: p, is: map[steps.Step]bool{}}
	c, places := p.Config, p.Prompt+p.Limit-1
	b.sizes = []int{1 + p.Prompt + p.Limit, c.Dim, c.Dim, c.Dim, c.Dim, c.Dim, c.Dim, places, c.Hidden, c.Hidden, c.Dim, c.Vocab}
	b.keys, b.vals = make([][]int, c.Layers), make([][]int, c.Layers)
	for layer := range c.Layers {
		for range places {
			b.keys[layer] = append(b.keys[layer], len(b.sizes))
			b.sizes = append(b.sizes, c.Dim)
			b.vals[layer] = append(b.vals[layer], len(b.sizes))
			b.sizes = append(b.sizes, c.Dim)
		}
	}
	for at := range places {
		b.tellPlace(at)
	}
	for _, s := range b.l {
		b.is[s] = true
	}
	return b
}

// tellPlace puts the steps of a place behind the others.
func (b *board) tellPlace(at int) {
	c := b.Config
	put := func(kind, layer, head, rows int) {
		for row := range rows {
			b.l = append(b.l, steps.Step{Kind: kind, At: at, Layer: layer, Head: head, Row: row})
		}
	}
	put(steps.Load, 0, 0, 1)
	for layer := range c.Layers {
		put(steps.NormA, layer, 0, 1)
		put(steps.QueryRow, layer, 0, c.Dim)
		put(steps.KeyRow, layer, 0, c.Dim)
		put(steps.ValueRow, layer, 0, c.Dim)
		put(steps.Turn, layer, 0, 1)
		put(steps.PutKey, layer, 0, 1)
		put(steps.PutValue, layer, 0, 1)
		for head := range c.Heads {
			put(steps.Near, layer, head, at+1)
			put(steps.Share, layer, head, 1)
			put(steps.Mix, layer, head, 1)
		}
		put(steps.OutputRow, layer, 0, c.Dim)
		put(steps.AddA, layer, 0, 1)
		put(steps.NormB, layer, 0, 1)
		put(steps.GateRow, layer, 0, c.Hidden)
		put(steps.Open, layer, 0, 1)
		put(steps.UpRow, layer, 0, c.Hidden)
		put(steps.Times, layer, 0, 1)
		put(steps.DownRow, layer, 0, c.Dim)
		put(steps.AddB, layer, 0, 1)
	}
	put(steps.NormC, 0, 0, 1)
	put(steps.OutRow, 0, 0, c.Vocab)
	if at >= b.Prompt-1 {
		put(steps.Pick, 0, 0, 1)
	}
}

// line is a line of the chapter's table: what a step reads and writes, and its kind of weights, or 0.
type line struct {
	reads  []int
	writes int
	part   int
}

// lineOf is that of a step of the plan.
func (b *board) lineOf(s steps.Step) line {
	key, value := -1, -1
	if s.Kind >= steps.NormA && s.Kind <= steps.AddB {
		key, value = b.keys[s.Layer][s.At], b.vals[s.Layer][s.At]
	}
	near, mix := []int{steps.Q, -1, steps.S}, []int{steps.S, steps.A}
	if s.Kind == steps.Near {
		near[1] = b.keys[s.Layer][s.Row]
	}
	if s.Kind == steps.Mix {
		mix = append(mix, b.vals[s.Layer][:s.At+1]...)
	}
	return map[int]line{
		steps.Load:      {[]int{steps.Tokens}, steps.X, weights.Embed},
		steps.NormA:     {[]int{steps.X}, steps.H, weights.Norm1},
		steps.NormB:     {[]int{steps.X}, steps.H, weights.Norm2},
		steps.NormC:     {[]int{steps.X}, steps.H, weights.Norm},
		steps.QueryRow:  {[]int{steps.H, steps.Q}, steps.Q, weights.Query},
		steps.KeyRow:    {[]int{steps.H, steps.K}, steps.K, weights.Key},
		steps.ValueRow:  {[]int{steps.H, steps.V}, steps.V, weights.Value},
		steps.Turn:      {[]int{steps.Q}, steps.Q, 0},
		steps.PutKey:    {[]int{steps.K}, key, 0},
		steps.PutValue:  {[]int{steps.V}, value, 0},
		steps.Near:      {near, steps.S, 0},
		steps.Share:     {[]int{steps.S}, steps.S, 0},
		steps.Mix:       {mix, steps.A, 0},
		steps.OutputRow: {[]int{steps.A, steps.O}, steps.O, weights.Output},
		steps.DownRow:   {[]int{steps.G, steps.O}, steps.O, weights.Down},
		steps.AddA:      {[]int{steps.X, steps.O}, steps.X, 0},
		steps.AddB:      {[]int{steps.X, steps.O}, steps.X, 0},
		steps.GateRow:   {[]int{steps.H, steps.G}, steps.G, weights.Gate},
		steps.UpRow:     {[]int{steps.H, steps.U}, steps.U, weights.Up},
		steps.Open:      {[]int{steps.G}, steps.G, 0},
		steps.Times:     {[]int{steps.G, steps.U}, steps.G, 0},
		steps.OutRow:    {[]int{steps.H, steps.L}, steps.L, weights.Out},
		steps.Pick:      {[]int{steps.L, steps.Tokens}, steps.Tokens, 0},
	}[s.Kind]
}

// weightSize is how many numbers the row of weights of a step has.
func (b *board) weightSize(s steps.Step) int {
	switch {
	case b.lineOf(s).part == 0:
		return 0
	case s.Kind == steps.DownRow:
		return b.Config.Hidden
	}
	return b.Config.Dim
}

// tellPart is the row of weights that a step has, and whether it has one.
func (b *board) tellPart(s steps.Step, reads [][]int) (weights.Part, bool) {
	if !b.is[s] || b.lineOf(s).part == 0 {
		return weights.Part{}, false
	}
	if s.Kind != steps.Load {
		return weights.Part{Kind: b.lineOf(s).part, Layer: s.Layer, Row: s.Row}, true
	}
	if len(reads) != 1 || len(reads[0]) != 1+b.Prompt+b.Limit {
		return weights.Part{}, false
	}
	token := reads[0][1+s.At]
	if token < 0 || token >= b.Config.Vocab {
		return weights.Part{}, false
	}
	return weights.Part{Kind: weights.Embed, Row: token}, true
}

// tellDo is what the cell that a step writes is behind it.
func (b *board) tellDo(s steps.Step, reads [][]int, weight []int, seed api.Digest) []int {
	need(b.is[s], api.ErrRange)
	x := b.lineOf(s)
	need(len(reads) == len(x.reads), api.ErrForm)
	for i, cell := range x.reads {
		need(len(reads[i]) == b.sizes[cell], api.ErrForm)
	}
	need(len(weight) == b.weightSize(s), api.ErrForm)
	first := slices.Clone(reads[0])
	last := slices.Clone(reads[len(reads)-1])
	switch s.Kind {
	case steps.Load:
		need(first[1+s.At] >= 0 && first[1+s.At] < b.Config.Vocab, api.ErrForm)
		return slices.Clone(weight)
	case steps.NormA, steps.NormB, steps.NormC:
		return got(tensor.Norm(first, weight))
	case steps.Turn, steps.PutKey:
		var all []int
		for h := range b.Config.Heads {
			all = append(all, got(tensor.Rotate(b.head(first, h), s.At))...)
		}
		return all
	case steps.PutValue:
		return first
	case steps.Near:
		last[s.Row] = got(model.Score(b.head(first, s.Head), b.head(reads[1], s.Head)))
		return last
	case steps.Share:
		return append(got(tensor.Softmax(first[:s.At+1])), first[s.At+1:]...)
	case steps.Mix:
		return b.tellMix(s, reads)
	case steps.AddA, steps.AddB:
		return got(tensor.Add(first, last))
	case steps.Open:
		for i := range first {
			first[i] = got(fixed.Gate(first[i]))
		}
		return first
	case steps.Times:
		for i := range first {
			first[i] = got(fixed.Mul(first[i], last[i]))
		}
		return first
	case steps.Pick:
		need(last[0] >= 0, api.ErrForm)
		stream := got(draw.New(seed, last[0]))
		last[2+s.At] = got(stream.Pick(first, b.K))
		last[0] = stream.Count()
		return last
	}
	last[s.Row] = got(tensor.Dot(weight, first))
	return last
}

func (b *board) tellMix(s steps.Step, reads [][]int) []int {
	var l [][]int
	for _, v := range reads[2:] {
		l = append(l, b.head(v, s.Head))
	}
	mixed := got(tensor.Mix(reads[0][:s.At+1], l...))
	a := slices.Clone(reads[1])
	for i, n := range mixed {
		a[s.Head*len(mixed)+i] = n
	}
	return a
}

// head is the h-th head's part of a vector.
func (b *board) head(v []int, h int) []int {
	n := len(v) / b.Config.Heads
	return slices.Clone(v[h*n : h*n+n])
}

// ran is what Run answers.
type ran struct {
	cells [][]int
	many  int
	e     api.Errno
}

// tellRun goes on from the cells that there are at first, with a model and a prompt that may be.
func (b *board) tellRun(w weights.Weights, a model.Ask) ran {
	r := ran{cells: b.tellBegin(a.Prompt)}
	for _, s := range b.l {
		x := b.lineOf(s)
		l, e := told(func() []int { return b.tellDo(s, pieces(r.cells, x.reads), b.rowOf(w, s, r.cells), a.Seed) })
		if r.e = e; e != api.OK {
			return r
		}
		r.cells[x.writes] = l
		r.many++
	}
	return r
}

// tellBegin is the cells as they are first.
func (b *board) tellBegin(prompt []int) [][]int {
	var cells [][]int
	for _, size := range b.sizes {
		cells = append(cells, make([]int, size))
	}
	cells[0] = slices.Concat([]int{0}, prompt, slices.Repeat([]int{-1}, b.Limit))
	return cells
}

// rowOf is the row of weights of a step.
func (b *board) rowOf(w weights.Weights, s steps.Step, cells [][]int) []int {
	x, has := b.tellPart(s, pieces(cells, b.lineOf(s).reads))
	if !has {
		return nil
	}
	return rows(w, x.Kind, x.Layer)[x.Row]
}

// rows is all rows of a kind of weights.
func rows(w weights.Weights, kind, layer int) [][]int {
	y := w.Layers[layer]
	switch kind {
	case weights.Norm1:
		return [][]int{y.Norm1}
	case weights.Norm2:
		return [][]int{y.Norm2}
	case weights.Norm:
		return [][]int{w.Norm}
	}
	m := map[int]tensor.Matrix{
		weights.Embed: w.Embed, weights.Query: y.Query, weights.Key: y.Key, weights.Value: y.Value, weights.Output: y.Output,
		weights.Gate: y.Gate, weights.Up: y.Up, weights.Down: y.Down, weights.Out: w.Out,
	}[kind]
	return slices.Collect(slices.Chunk(m.L, m.Cols))
}

// pieces is some of the cells.
func pieces(cells [][]int, which []int) [][]int {
	var l [][]int
	for _, cell := range which {
		l = append(l, cells[cell])
	}
	return l
}

// newChance is numbers of all kinds, the same in each run.
func newChance(seed uint64) *rand.Rand { return rand.New(rand.NewPCG(seed, 12)) }

// numbers is so many of any length up to so many bits, at times the least or the greatest.
func numbers(c *rand.Rand, many, bits int) []int {
	v := make([]int, many)
	for i := range v {
		switch c.IntN(60) {
		case 0:
			v[i] = low >> (31 - bits)
		case 1:
			v[i] = high >> (31 - bits)
		default:
			v[i] = (low + c.IntN(high-low+1)) >> (31 - bits + c.IntN(bits))
		}
	}
	return v
}

// farInts is ints far from all that may be.
func farInts() []int {
	return []int{math.MinInt, math.MinInt + 1, -1 << 33, -65536, -2, -1, 65, 513, 65536, 1 << 31, 1 << 32, 1<<32 + 1, math.MaxInt - 1, math.MaxInt}
}

// notNumbers is what is no number.
func notNumbers() []int { return []int{math.MinInt, low - 1, high + 1, 1 << 40, math.MaxInt} }
