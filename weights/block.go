package weights

import (
	"iter"

	"cupel/api"
	"cupel/tensor"
)

// block is a part with all its rows: a vector, which is one row, or a matrix.
type block struct {
	kind  int
	layer int
	rows  int
	cols  int
	// One of these is nil. The other one tells where in a model, with all its layers, the block stands.
	vector func(w *Weights) *[]int
	matrix func(w *Weights) *tensor.Matrix
}

// blocks tells all vectors and matrices of a model, in order.
func (c Config) blocks() iter.Seq[block] {
	return func(yield func(block) bool) {
		more := yield(block{kind: Embed, rows: c.Vocab, cols: c.Dim, matrix: func(w *Weights) *tensor.Matrix { return &w.Embed }})
		for layer := range c.Layers {
			for _, b := range c.layerBlocks(layer) {
				more = more && yield(b)
			}
		}
		more = more && yield(block{kind: Norm, rows: 1, cols: c.Dim, vector: func(w *Weights) *[]int { return &w.Norm }})
		if more {
			yield(block{kind: Out, rows: c.Vocab, cols: c.Dim, matrix: func(w *Weights) *tensor.Matrix { return &w.Out }})
		}
	}
}

// layerBlocks is the vectors and matrices of one layer, in order.
func (c Config) layerBlocks(layer int) []block {
	vector := func(kind int, in func(l *Layer) *[]int) block {
		return block{kind: kind, layer: layer, rows: 1, cols: c.Dim, vector: func(w *Weights) *[]int { return in(&w.Layers[layer]) }}
	}
	matrix := func(kind, rows, cols int, in func(l *Layer) *tensor.Matrix) block {
		return block{kind: kind, layer: layer, rows: rows, cols: cols, matrix: func(w *Weights) *tensor.Matrix { return in(&w.Layers[layer]) }}
	}
	return []block{
		vector(Norm1, func(l *Layer) *[]int { return &l.Norm1 }),
		matrix(Query, c.Dim, c.Dim, func(l *Layer) *tensor.Matrix { return &l.Query }),
		matrix(Key, c.Dim, c.Dim, func(l *Layer) *tensor.Matrix { return &l.Key }),
		matrix(Value, c.Dim, c.Dim, func(l *Layer) *tensor.Matrix { return &l.Value }),
		matrix(Output, c.Dim, c.Dim, func(l *Layer) *tensor.Matrix { return &l.Output }),
		vector(Norm2, func(l *Layer) *[]int { return &l.Norm2 }),
		matrix(Gate, c.Hidden, c.Dim, func(l *Layer) *tensor.Matrix { return &l.Gate }),
		matrix(Up, c.Hidden, c.Dim, func(l *Layer) *tensor.Matrix { return &l.Up }),
		matrix(Down, c.Dim, c.Hidden, func(l *Layer) *tensor.Matrix { return &l.Down }),
	}
}

// numbers is where the numbers of all rows stand, one behind the other.
func (b block) numbers(w *Weights) *[]int {
	if b.matrix != nil {
		return &b.matrix(w).L
	}
	return b.vector(w)
}

// checkSizes tells whether a model's block has the sizes that are told of it.
func (b block) checkSizes(w *Weights) api.Errno {
	rows, cols := 1, len(*b.numbers(w))
	if b.matrix != nil {
		m := b.matrix(w)
		rows, cols = m.Rows, m.Cols
	}
	if rows != b.rows || cols != b.cols {
		return api.ErrSize
	}
	return api.OK
}

// checkNumbers tells what is wrong with the numbers of a model's block.
func (b block) checkNumbers(w *Weights) api.Errno {
	if b.matrix != nil {
		return b.matrix(w).Check()
	}
	return tensor.Check(*b.vector(w))
}

// add lets a model's block have one more row.
func (b block) add(w *Weights, row []int) {
	if b.matrix != nil {
		m := b.matrix(w)
		m.Rows, m.Cols = m.Rows+1, b.cols
	}
	l := b.numbers(w)
	*l = append(*l, row...)
}
