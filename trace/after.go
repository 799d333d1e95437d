package trace

import (
	"slices"

	"cupel/api"
	"cupel/codec"
	"cupel/merkle"
	"cupel/steps"
)

// After is the state behind a step, by the state ahead of it and a witness alone.
func After(p steps.Plan, root api.Digest, seed api.Digest, i int, before api.Digest, x Witness) (api.Digest, api.Errno) {
	s, e := p.Step(i)
	if e != api.OK {
		return api.Digest{}, e
	}
	places := slices.Collect(touched(p, s))
	isAt := func(c Cell, place int) bool { return c.Place == place }
	switch {
	case !slices.EqualFunc(x.Cells, places, isAt):
		return api.Digest{}, api.ErrForm
	case !areOf(before, p.Cells(), x.Cells) || !hasRow(root, p, s, x):
		return api.Digest{}, api.ErrProof
	}
	l, e := p.Do(s, readsOf(p, s, x.Cells), x.Weight, seed)
	if e != api.OK {
		return api.Digest{}, e
	}
	written := x.Cells[slices.Index(places, p.Writes(s))]
	written.L = l
	return written.fold(p.Cells())
}

// areOf tells whether all of these are cells of a state of so many.
func areOf(state api.Digest, many int, l []Cell) bool {
	are := true
cells:
	for _, c := range l {
		if !c.leadsTo(state, many) {
			are = false
			break cells
		}
	}
	return are
}

// hasRow tells whether a witness has the row of weights of a step, out of weights of a root. Where there is none, or what is read does not tell which, it is to have nothing.
func hasRow(root api.Digest, p steps.Plan, s steps.Step, x Witness) bool {
	part, has := p.Part(s, readsOf(p, s, x.Cells))
	if !has {
		return len(x.Weight) == 0 && len(x.Proof) == 0
	}
	many, e := p.Config.Many()
	if e != api.OK {
		return false
	}
	place, e := p.Config.Place(part)
	if e != api.OK {
		return false
	}
	return Cell{place, x.Weight, x.Proof}.leadsTo(root, many)
}

// leadsTo tells whether a cell, as a leaf of so many, leads to a root by its proof.
func (c Cell) leadsTo(root api.Digest, many int) bool {
	d, e := c.fold(many)
	return e == api.OK && d == root
}

// fold is the root to which a cell leads so.
func (c Cell) fold(many int) (api.Digest, api.Errno) {
	return merkle.Fold(many, c.Place, codec.Numbers(c.L...), c.Proof)
}
