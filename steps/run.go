package steps

import (
	"slices"

	"cupel/api"
	"cupel/model"
	"cupel/weights"
)

// notYet stands where a token did not come yet.
const notYet = -1

// Begin is the cells ahead of the first step.
func (p Plan) Begin(prompt []int) ([][]int, api.Errno) {
	if e := p.Check(); e != api.OK {
		return nil, e
	}
	if len(prompt) != p.Prompt {
		return nil, api.ErrSize
	}
	isNone := func(token int) bool { return !p.isToken(token) }
	if slices.ContainsFunc(prompt, isNone) {
		return nil, api.ErrRange
	}
	cells := make([][]int, p.cells())
	for cell := range cells {
		cells[cell] = make([]int, p.size(cell))
	}
	tokens := cells[Tokens][tokensAt:]
	copy(tokens, prompt)
	for i := p.Prompt; i < len(tokens); i++ {
		tokens[i] = notYet
	}
	return cells, api.OK
}

// Run is the cells behind all steps, and how many were done; with a step's error it is those ahead of that step.
func Run(w weights.Weights, p Plan, a model.Ask) ([][]int, int, api.Errno) {
	if e := weights.Check(w); e != api.OK {
		return nil, 0, e
	}
	if p.Config != w.Config || p.Limit != a.Limit || p.K != a.K {
		return nil, 0, api.ErrForm
	}
	cells, e := p.Begin(a.Prompt)
	if e != api.OK {
		return nil, 0, e
	}
	done := 0
steps:
	for s := range p.Steps() {
		if e = p.advance(cells, s, w, a.Seed); e != api.OK {
			break steps
		}
		done++
	}
	return cells, done, e
}

// advance does a step of the plan: it turns the cell that the step writes, unless there is an error.
func (p Plan) advance(cells [][]int, s Step, w weights.Weights, seed api.Digest) api.Errno {
	read, written := p.touched(s)
	var reads [][]int
	for _, cell := range read {
		reads = append(reads, cells[cell])
	}
	var weight []int
	if x, has := p.Part(s, reads); has {
		var e api.Errno
		if weight, e = Row(w, x); e != api.OK {
			return e
		}
	}
	l, e := p.Do(s, reads, weight, seed)
	if e != api.OK {
		return e
	}
	cells[written] = l
	return api.OK
}
