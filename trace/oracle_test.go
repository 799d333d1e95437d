package trace_test

import (
	"crypto/sha256"
	"encoding/binary"
	"math"
	"slices"

	"cupel/api"
	"cupel/steps"
	"cupel/trace"
	"cupel/weights"
)

// This file tells the chapter's words once more, to hold the package against them: with digests of another package, trees that are gone through from their roots on, and all cells ahead of all steps. What a step does is told by package steps.

// plainNumbers is a leaf of numbers.
func plainNumbers(l []int) []byte {
	var b []byte
	for _, n := range l {
		b = binary.BigEndian.AppendUint64(b, uint64(n))
	}
	return b
}

func plainLeaf(b []byte) api.Digest { return sha256.Sum256(append([]byte{0}, b...)) }

func plainNode(a, b api.Digest) api.Digest {
	return sha256.Sum256(slices.Concat([]byte{1}, a[:], b[:]))
}

// half is how many of n leaves stand on the first side of their root.
func half(n int) int {
	k := 1
	for 2*k < n {
		k *= 2
	}
	return k
}

func plainRoot(l [][]byte) api.Digest {
	switch len(l) {
	case 0:
		return sha256.Sum256([]byte{2})
	case 1:
		return plainLeaf(l[0])
	}
	k := half(len(l))
	return plainNode(plainRoot(l[:k]), plainRoot(l[k:]))
}

func plainProof(i int, l [][]byte) []api.Digest {
	k := half(len(l))
	switch {
	case len(l) == 1:
		return nil
	case i < k:
		return append(plainProof(i, l[:k]), plainRoot(l[k:]))
	}
	return append(plainProof(i-k, l[k:]), plainRoot(l[:k]))
}

// plainFold is the root to which a leaf leads, if there may be such a proof.
func plainFold(n, i int, leaf []byte, proof []api.Digest) (d api.Digest, may bool) {
	if n == 1 || len(proof) == 0 {
		return plainLeaf(leaf), n == 1 && len(proof) == 0
	}
	k, up := half(n), len(proof)-1
	if i < k {
		d, may = plainFold(k, i, leaf, proof[:up])
		return plainNode(d, proof[up]), may
	}
	d, may = plainFold(n-k, i-k, leaf, proof[:up])
	return plainNode(proof[up], d), may
}

func plainLeaves(cells [][]int) [][]byte {
	var l [][]byte
	for _, c := range cells {
		l = append(l, plainNumbers(c))
	}
	return l
}

func plainState(cells [][]int) api.Digest { return plainRoot(plainLeaves(cells)) }

// plainReads is the cells that a step reads, and the one that it writes.
func plainReads(p steps.Plan, s steps.Step) (reads []int, writes int) {
	key := func(place int) int { return 12 + 2*(s.Layer*(p.Prompt+p.Limit-1)+place) }
	switch s.Kind {
	case steps.Load:
		return []int{0}, 1
	case steps.NormA, steps.NormB, steps.NormC:
		return []int{1}, 2
	case steps.Turn:
		return []int{3}, 3
	case steps.PutKey:
		return []int{4}, key(s.At)
	case steps.PutValue:
		return []int{5}, key(s.At) + 1
	case steps.Near:
		return []int{3, key(s.Row), 7}, 7
	case steps.Share:
		return []int{7}, 7
	case steps.Mix:
		reads = []int{7, 6}
		for place := 0; place <= s.At; place++ {
			reads = append(reads, key(place)+1)
		}
		return reads, 6
	case steps.AddA, steps.AddB:
		return []int{1, 10}, 1
	case steps.Open:
		return []int{8}, 8
	case steps.Times:
		return []int{8, 9}, 8
	case steps.Pick:
		return []int{11, 0}, 0
	}
	from := map[int]int{steps.OutputRow: 6, steps.DownRow: 8}
	to := map[int]int{
		steps.QueryRow: 3, steps.KeyRow: 4, steps.ValueRow: 5, steps.OutputRow: 10,
		steps.GateRow: 8, steps.UpRow: 9, steps.DownRow: 10, steps.OutRow: 11,
	}
	if from[s.Kind] == 0 {
		from[s.Kind] = 2
	}
	return []int{from[s.Kind], to[s.Kind]}, to[s.Kind]
}

func plainTouched(p steps.Plan, s steps.Step) []int {
	l, writes := plainReads(p, s)
	if !slices.Contains(l, writes) {
		l = append(l, writes)
	}
	return l
}

// plainPlace is the leaf of a step's row of weights, of how many leaves; 0, if it has none. Of Load the token tells which.
func plainPlace(c weights.Config, s steps.Step, token int) (place, many int) {
	layer := 2 + 5*c.Dim + 2*c.Hidden
	many = 1 + c.Vocab + c.Layers*layer + 1 + c.Vocab
	from := 1 + c.Vocab + s.Layer*layer
	switch s.Kind {
	case steps.Load:
		if token < 0 || token >= c.Vocab {
			return 0, many
		}
		return 1 + token, many
	case steps.NormA:
		return from, many
	case steps.QueryRow:
		return from + 1 + s.Row, many
	case steps.KeyRow:
		return from + 1 + c.Dim + s.Row, many
	case steps.ValueRow:
		return from + 1 + 2*c.Dim + s.Row, many
	case steps.OutputRow:
		return from + 1 + 3*c.Dim + s.Row, many
	case steps.NormB:
		return from + 1 + 4*c.Dim, many
	case steps.GateRow:
		return from + 2 + 4*c.Dim + s.Row, many
	case steps.UpRow:
		return from + 2 + 4*c.Dim + c.Hidden + s.Row, many
	case steps.DownRow:
		return from + 2 + 4*c.Dim + 2*c.Hidden + s.Row, many
	case steps.NormC:
		return many - c.Vocab - 1, many
	case steps.OutRow:
		return many - c.Vocab + s.Row, many
	}
	return 0, many
}

// plain is a whole run: the cells ahead of each step, and behind the last one, and their states.
type plain struct {
	run
	p      steps.Plan
	l      []steps.Step
	cells  [][][]int
	states []api.Digest
	leaves [][]byte // of the weights
	root   api.Digest
	e      api.Errno
}

// plainOf goes through a run that may be, up to an error.
func plainOf(r run) *plain {
	x := &plain{run: r, p: steps.Plan{Config: r.w.Config, Prompt: len(r.a.Prompt), Limit: r.a.Limit, K: r.a.K}}
	x.leaves, x.e = weights.Leaves(r.w)
	if x.e != api.OK {
		panic(x.e)
	}
	x.root = plainRoot(x.leaves)
	cells, e := x.p.Begin(r.a.Prompt)
	if e != api.OK {
		panic(e)
	}
	note := func() {
		x.cells = append(x.cells, slices.Clone(cells))
		x.states = append(x.states, plainState(cells))
	}
	note()
	for s := range x.p.Steps() {
		var l []int
		if l, x.e = x.p.Do(s, x.readsOf(s, cells), x.rowOf(s, cells), r.a.Seed); x.e != api.OK {
			return x
		}
		_, writes := plainReads(x.p, s)
		cells[writes] = l
		x.l = append(x.l, s)
		note()
	}
	return x
}

// readsOf is the numbers that a step reads.
func (x *plain) readsOf(s steps.Step, cells [][]int) [][]int {
	var l [][]int
	reads, _ := plainReads(x.p, s)
	for _, cell := range reads {
		l = append(l, cells[cell])
	}
	return l
}

// rowOf is the row of weights of a step.
func (x *plain) rowOf(s steps.Step, cells [][]int) []int {
	place, _ := plainPlace(x.p.Config, s, cells[0][1+s.At])
	if place == 0 {
		return nil
	}
	return plainInts(x.leaves[place])
}

// plainInts is the numbers of a leaf.
func plainInts(b []byte) []int {
	var l []int
	for ; len(b) > 0; b = b[8:] {
		l = append(l, int(binary.BigEndian.Uint64(b)))
	}
	return l
}

// witnessOf is a step's witness, of whatever cells.
func (x *plain) witnessOf(s steps.Step, cells [][]int) trace.Witness {
	var y trace.Witness
	leaves := plainLeaves(cells)
	for _, cell := range plainTouched(x.p, s) {
		y.Cells = append(y.Cells, trace.Cell{Place: cell, L: slices.Clone(cells[cell]), Proof: plainProof(cell, leaves)})
	}
	token := -1
	if 1+s.At < len(cells[0]) {
		token = cells[0][1+s.At]
	}
	if place, _ := plainPlace(x.p.Config, s, token); place > 0 {
		y.Weight, y.Proof = plainInts(x.leaves[place]), plainProof(place, x.leaves)
	}
	return y
}

// witness is that of the i-th step.
func (x *plain) witness(i int) trace.Witness { return x.witnessOf(x.l[i], x.cells[i]) }

// stateLeaves is the states as leaves.
func (x *plain) stateLeaves() [][]byte {
	var l [][]byte
	for i := range x.states {
		l = append(l, x.states[i][:])
	}
	return l
}

// tokens is those that came.
func (x *plain) tokens() []int {
	var l []int
	for _, n := range x.cells[len(x.l)][0][1+x.p.Prompt:] {
		if n < 0 {
			break
		}
		l = append(l, n)
	}
	return l
}

// claim is what After is asked.
type claim struct {
	p          steps.Plan
	root, seed api.Digest
	i          int
	before     api.Digest
	trace.Witness
}

// claimOf is that of the i-th step, as it is.
func (x *plain) claimOf(i int) claim {
	return claim{x.p, x.root, x.a.Seed, i, x.states[i], x.witness(i)}
}

func (c claim) after() (api.Digest, api.Errno) {
	return trace.After(c.p, c.root, c.seed, c.i, c.before, c.Witness)
}

// plainAfter is what is wanted of After.
func (c claim) plainAfter() (api.Digest, api.Errno) {
	l := slices.Collect(c.p.Steps())
	if c.i < 0 || c.i >= len(l) {
		return api.Digest{}, api.ErrRange
	}
	s := l[c.i]
	places := plainTouched(c.p, s)
	if len(places) != len(c.Cells) {
		return api.Digest{}, api.ErrForm
	}
	for k, cell := range c.Cells {
		if cell.Place != places[k] {
			return api.Digest{}, api.ErrForm
		}
	}
	for _, cell := range c.Cells {
		if d, may := plainFold(c.p.Cells(), cell.Place, plainNumbers(cell.L), cell.Proof); !may || d != c.before {
			return api.Digest{}, api.ErrProof
		}
	}
	if !c.plainRow(s) {
		return api.Digest{}, api.ErrProof
	}
	reads, writes := plainReads(c.p, s)
	var numbers [][]int
	for k := range reads {
		numbers = append(numbers, c.Cells[k].L)
	}
	written, e := c.p.Do(s, numbers, c.Weight, c.seed)
	if e != api.OK {
		return api.Digest{}, e
	}
	d, _ := plainFold(c.p.Cells(), writes, plainNumbers(written), c.Cells[slices.Index(places, writes)].Proof)
	return d, api.OK
}

// plainRow tells whether the row of weights is the one that is due.
func (c claim) plainRow(s steps.Step) bool {
	token := -1
	if first := c.Cells[0].L; s.Kind == steps.Load && len(first) == 1+c.p.Prompt+c.p.Limit {
		token = first[1+s.At]
	}
	place, many := plainPlace(c.p.Config, s, token)
	if place == 0 {
		return len(c.Weight) == 0 && len(c.Proof) == 0
	}
	d, may := plainFold(many, place, plainNumbers(c.Weight), c.Proof)
	return may && d == c.root
}

// farInts is ints far from all that may be.
func farInts() []int {
	return []int{math.MinInt, math.MinInt + 1, -1 << 33, -65536, -2, -1, 1 << 31, 1 << 32, 1<<32 + 1, math.MaxInt - 1, math.MaxInt}
}
