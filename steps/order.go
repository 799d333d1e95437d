package steps

import (
	"iter"

	"cupel/api"
)

// stretch is steps one behind the other that differ in their rows alone, from row 0 on.
type stretch struct {
	Step
	rows int
}

// step is the step of a row.
func (x stretch) step(row int) Step {
	s := x.Step
	s.Row = row
	return s
}

// Steps tells all steps, in order.
func (p Plan) Steps() iter.Seq[Step] {
	return func(yield func(Step) bool) {
		for x := range p.stretches() {
			for row := range x.rows {
				if !yield(x.step(row)) {
					return
				}
			}
		}
	}
}

// Many is how many steps there are.
func (p Plan) Many() int {
	many := 0
	for x := range p.stretches() {
		many += x.rows
	}
	return many
}

// Step is the i-th step.
func (p Plan) Step(i int) (Step, api.Errno) {
	if i < 0 {
		return Step{}, api.ErrRange
	}
	for x := range p.stretches() {
		if i < x.rows {
			return x.step(i), api.OK
		}
		i -= x.rows
	}
	return Step{}, api.ErrRange
}

// stretches tells all stretches, in order: none of a plan that may not be.
func (p Plan) stretches() iter.Seq[stretch] {
	return func(yield func(stretch) bool) {
		for at := range p.Places() {
			if !p.tellPlace(yield, at) {
				return
			}
		}
	}
}

// tellPlace tells yield all stretches of a place, in order, and whether it asks for more.
func (p Plan) tellPlace(yield func(stretch) bool, at int) bool {
	more := p.tellKinds(yield, Step{Kind: Load, At: at}, Load)
	for layer := range p.Config.Layers {
		more = more && p.tellKinds(yield, Step{Kind: NormA, At: at, Layer: layer}, PutValue)
		for head := range p.Config.Heads {
			more = more && p.tellKinds(yield, Step{Kind: Near, At: at, Layer: layer, Head: head}, Mix)
		}
		more = more && p.tellKinds(yield, Step{Kind: OutputRow, At: at, Layer: layer}, AddB)
	}
	return more && p.tellKinds(yield, Step{Kind: NormC, At: at}, Pick)
}

// tellKinds tells yield the stretches from a first step's kind up to a last kind, and whether it asks for more.
func (p Plan) tellKinds(yield func(stretch) bool, s Step, last int) bool {
	for ; s.Kind <= last; s.Kind++ {
		if !yield(stretch{s, p.rows(s.Kind, s.At)}) {
			return false
		}
	}
	return true
}

// layers is how many layers have steps of a kind.
func (p Plan) layers(kind int) int {
	if NormA <= kind && kind <= AddB {
		return p.Config.Layers
	}
	return 1
}

// heads is how many heads have steps of a kind.
func (p Plan) heads(kind int) int {
	if Near <= kind && kind <= Mix {
		return p.Config.Heads
	}
	return 1
}

// rows is how many steps of a kind a place has, of each layer and head that has any.
func (p Plan) rows(kind, at int) int {
	switch kind {
	case QueryRow, KeyRow, ValueRow, OutputRow, DownRow:
		return p.Config.Dim
	case GateRow, UpRow:
		return p.Config.Hidden
	case Near:
		return at + 1
	case OutRow:
		return p.Config.Vocab
	case Pick:
		// Behind the prompt's other tokens comes the prompt's next one.
		if at < p.Prompt-1 {
			return 0
		}
	}
	return 1
}

// has tells whether a step is one of the plan.
func (p Plan) has(s Step) bool {
	return Load <= s.Kind && s.Kind <= Pick &&
		isPlace(s.At, p.Places()) &&
		isPlace(s.Layer, p.layers(s.Kind)) &&
		isPlace(s.Head, p.heads(s.Kind)) &&
		isPlace(s.Row, p.rows(s.Kind, s.At))
}
