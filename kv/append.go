package kv

import (
	"slices"

	"cupel/api"
)

// Append puts a thing behind those of a row.
func (p *Pool[T]) Append(id int, x T) api.Errno {
	r, e := p.row(id)
	if e != api.OK {
		return e
	}
	if e := p.makeRoom(r); e != api.OK {
		return e
	}
	last := &p.pages[r.last()]
	last.things = append(last.things[:r.many%p.size], x)
	r.many++
	return api.OK
}

// makeRoom has a row hold, as its last page, one that has room and that no other row holds.
func (p *Pool[T]) makeRoom(r *row) api.Errno {
	there := r.many % p.size
	if there > 0 && p.pages[r.last()].count == 1 {
		return api.OK
	}
	page, e := p.take()
	if e != api.OK {
		return e
	}
	if there > 0 {
		p.pages[page].things = slices.Clone(p.pages[r.last()].things[:there])
		p.leave(r.last())
		r.pages = r.pages[:len(r.pages)-1]
	}
	r.pages = append(r.pages, page)
	return api.OK
}

// last is the last page of a row that has things.
func (r *row) last() int { return r.pages[len(r.pages)-1] }

// take has one row hold the first free page.
func (p *Pool[T]) take() (int, api.Errno) {
	isFree := p.tellFree()
	page := 0
pages:
	for ; ; page++ {
		switch {
		case page == len(p.pages):
			return 0, api.ErrFull
		case isFree(page):
			break pages
		}
	}
	p.pages[page].count = 1
	return page, api.OK
}

// tellFree tells of a page whether it is free.
func (p *Pool[T]) tellFree() func(page int) bool {
	return func(page int) bool { return p.pages[page].count == 0 }
}
