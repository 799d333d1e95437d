package kv

import (
	"iter"
	"slices"

	"cupel/api"
)

// Get is a row's i-th thing.
func (p *Pool[T]) Get(id, i int) (T, api.Errno) {
	var none T
	r, e := p.row(id)
	switch {
	case e != api.OK:
		return none, e
	case i < 0 || i >= r.many:
		return none, api.ErrRange
	}
	return p.thing(r, i), api.OK
}

// thing is the i-th one of a row that has it.
func (p *Pool[T]) thing(r *row, i int) T {
	return p.pages[r.pages[i/p.size]].things[i%p.size]
}

// All is a row's things as they are now, whatever becomes of the row.
func (p *Pool[T]) All(id int) iter.Seq[T] {
	var things []T
	if r, e := p.row(id); e == api.OK {
		things = make([]T, r.many)
		for i := range things {
			things[i] = p.thing(r, i)
		}
	}
	return slices.Values(things)
}

// Len is how many things a row has.
func (p *Pool[T]) Len(id int) (int, api.Errno) {
	r, e := p.row(id)
	if e != api.OK {
		return 0, e
	}
	return r.many, api.OK
}

// Pages is the pages that a row holds.
func (p *Pool[T]) Pages(id int) []int {
	r, e := p.row(id)
	if e != api.OK {
		return nil
	}
	return slices.Clone(r.pages)
}

// Count is how many open rows hold a page.
func (p *Pool[T]) Count(page int) int {
	if p == nil || page < 0 || page >= len(p.pages) {
		return 0
	}
	return p.pages[page].count
}

// Free is how many pages are free.
func (p *Pool[T]) Free() int {
	if p == nil {
		return 0
	}
	isFree, free := p.tellFree(), 0
	for page := range p.pages {
		if isFree(page) {
			free++
		}
	}
	return free
}
