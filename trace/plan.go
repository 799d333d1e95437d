package trace

import (
	"iter"
	"slices"

	"cupel/api"
	"cupel/merkle"
	"cupel/model"
	"cupel/steps"
	"cupel/weights"
)

// What stands in the cell of the tokens.
const (
	tokensAt = 1  // where the tokens begin: ahead of them is how far the stream of draws is
	notYet   = -1 // where a token did not come yet
)

// PlanOf is the plan of what is asked.
func PlanOf(c weights.Config, a model.Ask) (steps.Plan, api.Errno) {
	if e := model.Check(c, a); e != api.OK {
		return steps.Plan{}, e
	}
	return steps.Plan{Config: c, Prompt: len(a.Prompt), Limit: a.Limit, K: a.K}, api.OK
}

// First is the state ahead of the first step.
func First(p steps.Plan, prompt []int) (api.Digest, api.Errno) {
	cells, e := p.Begin(prompt)
	if e != api.OK {
		return api.Digest{}, e
	}
	return State(cells), api.OK
}

// State is the state of cells.
func State(cells [][]int) api.Digest { return merkle.Root(leavesOf(cells)...) }

// Touched is the cells that a step touches.
func Touched(p steps.Plan, i int) ([]int, api.Errno) {
	s, e := p.Step(i)
	if e != api.OK {
		return nil, e
	}
	return slices.Collect(touched(p, s)), api.OK
}

// touched tells the cells that a step reads, in order, and then the one that it writes, if it does not read that.
func touched(p steps.Plan, s steps.Step) iter.Seq[int] {
	return func(yield func(int) bool) {
		reads, written := p.Reads(s), p.Writes(s)
		for _, cell := range reads {
			if !yield(cell) {
				return
			}
		}
		if !slices.Contains(reads, written) {
			yield(written)
		}
	}
}

// readsOf is the numbers of the cells that a step reads, which are the first ones of those that it touches.
func readsOf(p steps.Plan, s steps.Step, cells []Cell) [][]int {
	many := len(p.Reads(s))
	var reads [][]int
	for _, c := range cells[:many:many] {
		reads = append(reads, c.L)
	}
	return reads
}
