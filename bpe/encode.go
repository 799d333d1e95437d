package bpe

import (
	"cupel/api"
)

// Encode is the tokens of bytes; with an error the place of the first byte that has none.
func (c *Coder) Encode(b []byte) ([]int, int, api.Errno) {
	switch {
	case c == nil:
		return nil, 0, api.ErrNil
	case len(b) > maxBytes:
		return nil, 0, api.ErrLong
	}
	l, n, e := c.letters(b)
	if e != api.OK {
		return nil, n, e
	}
	r := row[int]{l}
	for p, there := c.first(r); there; p, there = c.first(r) {
		r.merge(p.A, p.B, c.tokens[p])
	}
	return r.l, 0, api.OK
}

// letters is the token of each byte, or the place of the first one that has none.
func (c *Coder) letters(b []byte) ([]int, int, api.Errno) {
	l := make([]int, len(b))
	for i, x := range b {
		if c.places[x] == 0 {
			return nil, i, api.ErrNone
		}
		l[i] = c.places[x] - 1
	}
	return l, 0, api.OK
}

// first is the first pair, by its number, that two neighbours are, if there is one.
func (c *Coder) first(r row[int]) (Pair, bool) {
	var first Pair
	none := c.Many()
	least := none
	for i := 1; i < len(r.l); i++ {
		p := Pair{A: r.l[i-1], B: r.l[i]}
		// The tokens of pairs are in the order of their numbers.
		if token, there := c.tokens[p]; there && token < least {
			first, least = p, token
		}
	}
	return first, least < none
}
