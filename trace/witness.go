package trace

import (
	"cupel/api"
	"cupel/steps"
)

// Witness is what a step touches, as it is ahead of the step.
func (t *Trace) Witness(i int) (Witness, api.Errno) {
	switch {
	case t == nil:
		return Witness{}, api.ErrNil
	case i < 0 || i >= t.Many():
		return Witness{}, api.ErrRange
	}
	s, e := t.plan.Step(i)
	if e != api.OK {
		return Witness{}, e
	}
	cells, e := t.ahead(i)
	if e != api.OK {
		return Witness{}, e
	}
	return t.witness(s, remember(cells))
}

// ahead is the cells ahead of the i-th step, in memory of their own.
func (t *Trace) ahead(i int) ([][]int, api.Errno) {
	cells, e := t.plan.Begin(t.prompt)
	if e != api.OK {
		return nil, e
	}
	for _, x := range t.writes[:i] {
		x.redo(cells)
	}
	return cells, api.OK
}

// witness is that of a step, out of the memory ahead of it.
func (t *Trace) witness(s steps.Step, m memory) (Witness, api.Errno) {
	var x Witness
	for place := range touched(t.plan, s) {
		x.Cells = append(x.Cells, m.cell(place))
	}
	part, has := t.plan.Part(s, readsOf(t.plan, s, x.Cells))
	if !has {
		return x, api.OK
	}
	weight, place, e := t.rows.row(part)
	if e != api.OK {
		return Witness{}, e
	}
	proof, e := t.rows.leaves.Prove(place)
	if e != api.OK {
		return Witness{}, e
	}
	x.Weight, x.Proof = weight, proof
	return x, api.OK
}
