package tensor

import (
	"cmp"
	"slices"

	"cupel/api"
)

// order looks for the greatest of some things: of the same ones it holds the first one to be ahead.
type order[T cmp.Ordered] struct {
	l      []T
	places []int
}

func orderOf[T cmp.Ordered](l []T) order[T] {
	o := order[T]{l: l, places: make([]int, len(l))}
	for i := range o.places {
		o.places[i] = i
	}
	return o
}

// compare is below 0 if the thing at i is ahead of the one at j, and above 0 if it is behind.
func (o order[T]) compare(i, j int) int {
	return cmp.Or(cmp.Compare(o.l[j], o.l[i]), cmp.Compare(i, j))
}

// first is the place of the one that is ahead of all, of one thing at least.
func (o order[T]) first() int { return slices.MinFunc(o.places, o.compare) }

// top is the places of the k that are ahead of the others, in order.
func (o order[T]) top(k int) []int {
	slices.SortFunc(o.places, o.compare)
	return slices.Clone(o.places[:k])
}

// Most is the place of the first of the greatest numbers.
func Most(v []int) (int, api.Errno) {
	if e := check(v); e != api.OK {
		return 0, e
	}
	return orderOf(v).first(), api.OK
}

// Top is the places of the greatest numbers, the greatest one first.
func Top(v []int, k int) ([]int, api.Errno) {
	if e := check(v); e != api.OK {
		return nil, e
	}
	if !isCount(k, len(v)) {
		return nil, api.ErrRange
	}
	return orderOf(v).top(k), api.OK
}
