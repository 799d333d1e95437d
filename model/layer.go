package model

import (
	"cupel/api"
	"cupel/fixed"
	"cupel/tensor"
	"cupel/weights"
)

// Feed is what the second half of a layer makes of a vector.
func Feed(h []int, l weights.Layer) ([]int, api.Errno) {
	var f first
	gates := ofEach(&f, fixed.Gate, ofTwo(&f, tensor.Mul, l.Gate, h))
	ups := ofTwo(&f, tensor.Mul, l.Up, h)
	products := ofEachTwo(&f, fixed.Mul, gates, ups)
	return leave(&f, ofTwo(&f, tensor.Mul, l.Down, products))
}

// layer is a layer as a place goes through it.
type layer struct {
	weights.Layer
	heads int
	place int
}

// turned is a vector of which each head's part is turned by the place.
func (l layer) turned(v []int) ([]int, api.Errno) {
	return byHead(l.heads, len(v), func(h head) ([]int, api.Errno) { return tensor.Rotate(h.part(v), l.place) })
}

// attended is what x becomes by what the place looks for in all places up to it. What is kept of the place comes behind what is kept of those.
func (l layer) attended(x []int, c *Cache) ([]int, api.Errno) {
	var f first
	h := ofTwo(&f, tensor.Norm, x, l.Norm1)
	q := ofTwo(&f, tensor.Mul, l.Query, h)
	k := ofTwo(&f, tensor.Mul, l.Key, h)
	v := ofTwo(&f, tensor.Mul, l.Value, h)
	q = of(&f, l.turned, q)
	k = of(&f, l.turned, k)
	c.Keys, c.Values = append(c.Keys, k), append(c.Values, v)
	look := func(q []int) ([]int, api.Errno) { return Attend(q, c.Keys, c.Values, l.heads) }
	a := of(&f, look, q)
	return leave(&f, ofTwo(&f, tensor.Add, x, ofTwo(&f, tensor.Mul, l.Output, a)))
}

// fed is what x becomes by being fed.
func (l layer) fed(x []int) ([]int, api.Errno) {
	var f first
	h := ofTwo(&f, tensor.Norm, x, l.Norm2)
	return leave(&f, ofTwo(&f, tensor.Add, x, ofTwo(&f, Feed, h, l.Layer)))
}
