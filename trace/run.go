package trace

import (
	"cupel/api"
	"cupel/codec"
	"cupel/merkle"
	"cupel/steps"
	"cupel/weights"
)

// rows is a model's leaves: a copy of its rows of weights, and what proves them.
type rows struct {
	config weights.Config
	leaves *merkle.Tree
}

// rowsOf is those of a model, or what weights.Check tells of it.
func rowsOf(w weights.Weights) (rows, api.Errno) {
	leaves, e := weights.Leaves(w)
	if e != api.OK {
		return rows{}, e
	}
	return rows{w.Config, merkle.New(leaves...)}, api.OK
}

// row is a row's numbers, and its leaf's place.
func (r rows) row(x weights.Part) ([]int, int, api.Errno) {
	place, e := r.config.Place(x)
	if e != api.OK {
		return nil, 0, e
	}
	leaf, e := r.leaves.Get(place)
	if e != api.OK {
		return nil, 0, e
	}
	l, e := codec.Ints(leaf)
	return l, place, e
}

// run does all steps, from these cells on, up to one that has an error, and notes all states, what each step wrote, and the tokens in the end.
func (t *Trace) run(cells [][]int, seed api.Digest) api.Errno {
	m := remember(cells)
	var states [][]byte
	tell := func() {
		state := m.leaves.Root()
		states = append(states, state[:])
	}
	tell()
	e := api.OK
walk:
	for s := range t.plan.Steps() {
		var l []int
		if l, e = t.do(s, m.cells, seed); e != api.OK {
			break walk
		}
		t.writes = append(t.writes, m.set(t.plan.Writes(s), l))
		tell()
	}
	t.states = merkle.New(states...)
	t.last = m.cell(steps.Tokens)
	return e
}

// do is what the cell that a step writes is behind it.
func (t *Trace) do(s steps.Step, cells [][]int, seed api.Digest) ([]int, api.Errno) {
	var reads [][]int
	for _, cell := range t.plan.Reads(s) {
		reads = append(reads, cells[cell])
	}
	var weight []int
	if x, has := t.plan.Part(s, reads); has {
		var e api.Errno
		if weight, _, e = t.rows.row(x); e != api.OK {
			return nil, e
		}
	}
	return t.plan.Do(s, reads, weight, seed)
}
