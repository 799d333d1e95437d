package weights

import "cupel/api"

// The greatest sizes, of those that api does not tell.
const (
	maxHeads  = 8
	maxLayers = 4
	maxCtx    = 64
	maxHidden = 64
)

// sizeCount is how many sizes there are.
const sizeCount = 6

// Check tells what is wrong with sizes.
func (c Config) Check() api.Errno {
	for _, size := range [sizeCount]struct{ n, least, most int }{
		{c.Vocab, 1, api.MaxVocab},
		{c.Dim, 2, api.MaxDim},
		{c.Heads, 1, maxHeads},
		{c.Layers, 1, maxLayers},
		{c.Ctx, 1, maxCtx},
		{c.Hidden, 1, maxHidden},
	} {
		if size.n < size.least || size.n > size.most {
			return api.ErrRange
		}
	}
	// A head's numbers are turned in pairs.
	if c.Dim%(2*c.Heads) != 0 {
		return api.ErrSize
	}
	return api.OK
}

// Many is how many leaves a model has.
func (c Config) Many() (int, api.Errno) {
	if e := c.Check(); e != api.OK {
		return 0, e
	}
	many := headLeaves
	for b := range c.blocks() {
		many += b.rows
	}
	return many, api.OK
}

// Place is a part's leaf.
func (c Config) Place(p Part) (int, api.Errno) {
	if e := c.Check(); e != api.OK {
		return 0, e
	}
	first := headLeaves
	for b := range c.blocks() {
		switch {
		case b.kind != p.Kind || b.layer != p.Layer:
			first += b.rows
		case p.Row < 0 || p.Row >= b.rows:
			return 0, api.ErrRange
		default:
			return first + p.Row, api.OK
		}
	}
	return 0, api.ErrRange
}
