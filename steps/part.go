package steps

import (
	"slices"

	"cupel/api"
	"cupel/tensor"
	"cupel/weights"
)

// Part is the row of weights that a step has, by what it reads.
func (p Plan) Part(s Step, reads [][]int) (weights.Part, bool) {
	if !p.has(s) || deedOf(s.Kind).part == 0 {
		return weights.Part{}, false
	}
	x := weights.Part{Kind: deedOf(s.Kind).part, Layer: s.Layer, Row: s.Row}
	if s.Kind == Load {
		if !p.areReads(s, reads) || !p.isToken(tokenOf(s, reads)) {
			return weights.Part{}, false
		}
		x.Row = tokenOf(s, reads)
	}
	return x, true
}

// areReads tells whether these are as many cells as a step reads, each of its size.
func (p Plan) areReads(s Step, reads [][]int) bool {
	cells, _ := p.touched(s)
	sameSize := func(l []int, cell int) bool { return len(l) == p.size(cell) }
	return slices.EqualFunc(reads, cells, sameSize)
}

// tokenOf is the token of the place of a step that loads it.
func tokenOf(s Step, reads [][]int) int { return reads[0][tokensAt+s.At] }

// weightSize is how many numbers the row of weights of a step has.
func (p Plan) weightSize(s Step) int {
	switch {
	case deedOf(s.Kind).part == 0:
		return 0
	case s.Kind == DownRow:
		return p.Config.Hidden
	}
	return p.Config.Dim
}

// Row is the numbers of a part of a model.
func Row(w weights.Weights, x weights.Part) ([]int, api.Errno) {
	if _, e := w.Config.Place(x); e != api.OK {
		return nil, api.ErrRange
	}
	// The model may be another one than its sizes tell.
	m := matrixOf(w, x)
	if x.Row >= m.Rows || !isPlace(m.Cols-1, len(m.L)) || x.Row >= len(m.L)/m.Cols {
		return nil, api.ErrRange
	}
	from, to := x.Row*m.Cols, (x.Row+1)*m.Cols
	return slices.Clone(m.L[from:to:to]), api.OK
}

// matrixOf is the matrix that a part is a row of; of a vector one of one row.
func matrixOf(w weights.Weights, x weights.Part) tensor.Matrix {
	switch x.Kind {
	case weights.Embed:
		return w.Embed
	case weights.Norm:
		return oneRow(w.Norm)
	case weights.Out:
		return w.Out
	}
	if x.Layer >= len(w.Layers) {
		return tensor.Matrix{}
	}
	return layerMatrix(w.Layers[x.Layer], x.Kind)
}

// layerMatrix is likewise of a layer.
func layerMatrix(l weights.Layer, kind int) tensor.Matrix {
	switch kind {
	case weights.Norm1:
		return oneRow(l.Norm1)
	case weights.Query:
		return l.Query
	case weights.Key:
		return l.Key
	case weights.Value:
		return l.Value
	case weights.Output:
		return l.Output
	case weights.Norm2:
		return oneRow(l.Norm2)
	case weights.Gate:
		return l.Gate
	case weights.Up:
		return l.Up
	}
	return l.Down
}

// oneRow is a vector as a matrix.
func oneRow(v []int) tensor.Matrix { return tensor.Matrix{Rows: 1, Cols: len(v), L: v} }
