package model

import (
	"slices"

	"cupel/api"
	"cupel/fixed"
	"cupel/tensor"
)

// tally is the sum of products so far.
type tally struct{ sum int }

// add is the sum with one product more.
func (t *tally) add(a, b int) (int, api.Errno) {
	var f first
	product := ofTwo(&f, fixed.Mul, a, b)
	t.sum = ofTwo(&f, fixed.Add, t.sum, product)
	return leave(&f, t.sum)
}

// Score is how well a key suits what is looked for.
func Score(q, k []int) (int, api.Errno) {
	if len(q) != len(k) || len(q) == 0 {
		return 0, api.ErrSize
	}
	var f first
	var t tally
	ofEachTwo(&f, t.add, q, k)
	root := of(&f, fixed.Root, len(q)*api.One)
	return leave(&f, ofTwo(&f, fixed.Div, t.sum, root))
}

// head is where a head's part of each vector stands.
type head struct{ from, to int }

// part is a head's part of a vector, without room behind it: what stands there is another head's.
func (h head) part(v []int) []int { return v[h.from:h.to:h.to] }

// byHead is what do makes of each of so many heads, which part so many numbers, one behind the other.
func byHead(heads, numbers int, do func(h head) ([]int, api.Errno)) ([]int, api.Errno) {
	size := numbers / heads
	l := make([]head, heads)
	for i := range l {
		l[i] = head{i * size, (i + 1) * size}
	}
	var f first
	return leave(&f, slices.Concat(ofEach(&f, do, l)...))
}

// attention is a vector that looks for others among keys, and the values of these.
type attention struct {
	q      []int
	keys   [][]int
	values [][]int
}

// Attend is, head by head, values together, each by how well its key suits what is looked for.
func Attend(q []int, keys, values [][]int, heads int) ([]int, api.Errno) {
	if heads < 1 || len(q) == 0 || len(q)%heads != 0 || len(keys) == 0 || len(keys) != len(values) {
		return nil, api.ErrSize
	}
	isOther := func(v []int) bool { return len(v) != len(q) }
	if slices.ContainsFunc(keys, isOther) || slices.ContainsFunc(values, isOther) {
		return nil, api.ErrSize
	}
	return byHead(heads, len(q), attention{q, keys, values}.of)
}

// of is a head's part of what comes of attending.
func (a attention) of(h head) ([]int, api.Errno) {
	q := h.part(a.q)
	score := func(key []int) (int, api.Errno) { return Score(q, h.part(key)) }
	values := make([][]int, len(a.values))
	for i, v := range a.values {
		values[i] = h.part(v)
	}
	mix := func(shares []int) ([]int, api.Errno) { return tensor.Mix(shares, values...) }
	var f first
	shares := of(&f, tensor.Softmax, ofEach(&f, score, a.keys))
	return leave(&f, of(&f, mix, shares))
}
