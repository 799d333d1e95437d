package draw

import (
	"cupel/api"
	"cupel/tensor"
)

// maxWeight is the heaviest weight.
const maxWeight = 1 << 31

// greatest is the k greatest ones of numbers.
type greatest struct {
	v []int
	k int
}

// choose is Choose, but that it may stand anywhere after an error.
func (s *Stream) choose(weights []int) (int, api.Errno) {
	all, e := together(weights)
	if e != api.OK {
		return 0, e
	}
	number, e := s.below(all)
	if e != api.OK {
		return 0, e
	}
	at := 0
	for sum := weights[at]; sum <= number; sum += weights[at] {
		at++
	}
	return at, api.OK
}

// together is all weights together, above 0.
func together(weights []int) (int, api.Errno) {
	if len(weights) == 0 || len(weights) > api.MaxVocab {
		return 0, api.ErrSize
	}
	all := 0
	for _, w := range weights {
		if w < 0 || w > maxWeight {
			return 0, api.ErrRange
		}
		all += w
	}
	if all == 0 {
		return 0, api.ErrNone
	}
	return all, api.OK
}

// pick is Pick, but that it may stand anywhere after an error.
func (s *Stream) pick(of greatest) (int, api.Errno) {
	top, e := tensor.Top(of.v, of.k)
	if e != api.OK {
		return 0, e
	}
	if of.k == 1 {
		return top[0], api.OK
	}
	numbers := make([]int, len(top))
	for i, at := range top {
		numbers[i] = of.v[at]
	}
	shares, e := tensor.Softmax(numbers)
	if e != api.OK {
		return 0, e
	}
	i, e := s.choose(shares)
	if e != api.OK {
		return 0, e
	}
	return top[i], api.OK
}
