package steps

import "cupel/api"

// Where things stand in the cell Tokens.
const (
	countAt = iota // how far the stream of draws is
	tokensAt
)

// keptOfPlace is how many cells a layer keeps of each place: a key and a value.
const keptOfPlace = 2

// Places is how many places there are.
func (p Plan) Places() int {
	if p.Check() != api.OK {
		return 0
	}
	return p.places()
}

// places is Places of a plan that may be. Of the last token that comes nothing is asked any more.
func (p Plan) places() int { return p.Prompt + p.Limit - 1 }

// Cells is how many cells there are.
func (p Plan) Cells() int {
	if p.Check() != api.OK {
		return 0
	}
	return p.cells()
}

// cells is Cells of a plan that may be.
func (p Plan) cells() int { return p.key(p.Config.Layers, 0) }

// key is the cell of a layer's key of a place.
func (p Plan) key(layer, place int) int { return Rest + keptOfPlace*(layer*p.places()+place) }

// value is the cell of a layer's value of a place.
func (p Plan) value(layer, place int) int { return p.key(layer, place) + 1 }

// Size is how many numbers a cell has.
func (p Plan) Size(cell int) int {
	if !isPlace(cell, p.Cells()) {
		return 0
	}
	return p.size(cell)
}

// size is Size of a cell that there is.
func (p Plan) size(cell int) int {
	switch cell {
	case Tokens:
		return tokensAt + p.Prompt + p.Limit
	case S:
		return p.places()
	case G, U:
		return p.Config.Hidden
	case L:
		return p.Config.Vocab
	}
	return p.Config.Dim
}

// Reads is the cells that a step reads.
func (p Plan) Reads(s Step) []int {
	if !p.has(s) {
		return nil
	}
	reads, _ := p.touched(s)
	return reads
}

// Writes is the cell that a step writes.
func (p Plan) Writes(s Step) int {
	if !p.has(s) {
		return 0
	}
	_, writes := p.touched(s)
	return writes
}

// touched is the cells that a step of the plan reads, in order, and the one that it writes.
func (p Plan) touched(s Step) (reads []int, writes int) {
	switch s.Kind {
	case Load:
		return []int{Tokens}, X
	case NormA, NormB, NormC:
		return []int{X}, H
	case QueryRow:
		return []int{H, Q}, Q
	case KeyRow:
		return []int{H, K}, K
	case ValueRow:
		return []int{H, V}, V
	case Turn:
		return []int{Q}, Q
	case PutKey:
		return []int{K}, p.key(s.Layer, s.At)
	case PutValue:
		return []int{V}, p.value(s.Layer, s.At)
	case Near:
		return []int{Q, p.key(s.Layer, s.Row), S}, S
	case Share:
		return []int{S}, S
	case Mix:
		return append([]int{S, A}, p.valuesTo(s.Layer, s.At)...), A
	case OutputRow:
		return []int{A, O}, O
	case DownRow:
		return []int{G, O}, O
	case AddA, AddB:
		return []int{X, O}, X
	case GateRow:
		return []int{H, G}, G
	case UpRow:
		return []int{H, U}, U
	case Open:
		return []int{G}, G
	case Times:
		return []int{G, U}, G
	case OutRow:
		return []int{H, L}, L
	}
	return []int{L, Tokens}, Tokens // Pick
}

// valuesTo is the cells of a layer's values of all places up to one, that one too.
func (p Plan) valuesTo(layer, last int) []int {
	var cells []int
	for place := range last + 1 {
		cells = append(cells, p.value(layer, place))
	}
	return cells
}
