package tensor

import (
	"math/bits"

	"cupel/api"
	"cupel/fixed"
)

// isCount tells whether there may be so many, of most at most.
func isCount(n, most int) bool { return 1 <= n && n <= most }

// areSame tells whether vectors have as many numbers as each other.
func areSame(l ...[]int) bool {
	for _, v := range l {
		if len(v) != len(l[0]) {
			return false
		}
	}
	return true
}

// check is the first error of vectors.
func check(l ...[]int) api.Errno {
	e := api.OK
vectors:
	for _, v := range l {
		if !isCount(len(v), api.MaxVocab) {
			e = api.ErrSize
			break vectors
		}
		for _, n := range v {
			if e = fixed.Check(n); e != api.OK {
				break vectors
			}
		}
	}
	return e
}

// checkWeights is api.ErrRange if one of these is no weight.
func checkWeights(l []int) api.Errno {
	for _, n := range l {
		if n < -maxWeight || n > maxWeight {
			return api.ErrRange
		}
	}
	return api.OK
}

// together goes through vectors of as many numbers (or of other things), and tells what f makes of those at each place, or its first error.
func together[N, M any](f func(l []N) (M, api.Errno), vectors ...[]N) ([]M, api.Errno) {
	made := make([]M, len(vectors[0]))
	here := make([]N, len(vectors))
	e := api.OK
places:
	for i := range made {
		for k, v := range vectors {
			here[k] = v[i]
		}
		if made[i], e = f(here); e != api.OK {
			made = nil
			break places
		}
	}
	return made, e
}

// scaled is all products of two vectors' numbers together, divided by one, rounded.
// At most 64 products, of numbers and of weights or shares, are far from where an int ends.
func scaled(a, b []int) (int, api.Errno) {
	sum := api.One / 2
	for i, n := range a {
		sum += n * b[i]
	}
	// A shift goes down below 0, too, where a quotient would be cut towards 0.
	return inRange(sum >> bits.TrailingZeros(api.One))
}

// inRange is what comes of numbers, if it is one, too.
func inRange(n int) (int, api.Errno) {
	if fixed.Check(n) != api.OK {
		return 0, api.ErrOver
	}
	return n, api.OK
}
