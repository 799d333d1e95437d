package model

import (
	"slices"

	"cupel/api"
	"cupel/draw"
	"cupel/weights"
)

// Ask is what is to be completed, and how.
type Ask struct {
	Prompt []int
	Seed   api.Digest
	K      int
	Limit  int
	Stop   []int
}

// Check tells why a model of such sizes can't complete what is asked.
func Check(c weights.Config, a Ask) api.Errno {
	if e := c.Check(); e != api.OK {
		return e
	}
	isNone := func(token int) bool { return !isToken(c, token) }
	switch {
	case len(a.Prompt) == 0 || a.Limit < 1:
		return api.ErrSize
	case a.Limit > c.Ctx-len(a.Prompt): // the two together might be more than an int
		return api.ErrLong
	case slices.ContainsFunc(a.Prompt, isNone) || a.K < 1 || a.K > c.Vocab:
		return api.ErrRange
	}
	return api.OK
}

// Complete is the tokens that come behind a prompt.
func Complete(w weights.Weights, a Ask) ([]int, api.Errno) {
	if e := weights.Check(w); e != api.OK {
		return nil, e
	}
	if e := Check(w.Config, a); e != api.OK {
		return nil, e
	}
	var f first
	stream := ofTwo(&f, draw.New, a.Seed, 0)
	p := pass{w, Empty(w.Config)}
	behind := ofEach(&f, p.next, a.Prompt)
	numbers := behind[len(behind)-1]
	var tokens []int
	for f.e == api.OK {
		token := ofTwo(&f, stream.Pick, numbers, a.K)
		tokens = append(tokens, token)
		// Behind the last token nothing is asked of the model any more, not even an error.
		if len(tokens) == a.Limit || slices.Contains(a.Stop, token) {
			break
		}
		numbers = of(&f, p.next, token)
	}
	return leave(&f, tokens)
}
