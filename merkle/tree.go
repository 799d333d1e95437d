package merkle

import (
	"bytes"

	"cupel/api"
)

// Tree is leaves that turn.
type Tree struct {
	leaves [][]byte
	// The roots of all parts, height by height: at first those of each leaf, in the end the one of all.
	// They are kept so that Set hashes a way alone, and not all leaves.
	roots [][]api.Digest
}

// New is one of some leaves.
func New(l ...[]byte) *Tree {
	t := &Tree{leaves: make([][]byte, len(l))}
	row := make([]api.Digest, len(l))
	for i, leaf := range l {
		t.leaves[i] = bytes.Clone(leaf)
		row[i] = Leaf(leaf)
	}
	t.roots = append(t.roots, row)
	for len(row) > 1 {
		row = rowAbove(row)
		t.roots = append(t.roots, row)
	}
	return t
}

// Len is how many leaves there are.
func (t *Tree) Len() int {
	if t == nil {
		return 0
	}
	return len(t.leaves)
}

// Get is a leaf.
func (t *Tree) Get(i int) ([]byte, api.Errno) {
	if e := t.check(i); e != api.OK {
		return nil, e
	}
	return bytes.Clone(t.leaves[i]), api.OK
}

// Set lets a leaf be another one.
func (t *Tree) Set(i int, leaf []byte) api.Errno {
	if e := t.check(i); e != api.OK {
		return e
	}
	t.leaves[i] = bytes.Clone(leaf)
	t.roots[0][i] = Leaf(leaf)
	for height := 1; height < len(t.roots); height++ {
		place := i >> height
		t.roots[height][place] = rootOfPair(t.roots[height-1], place)
	}
	return api.OK
}

// Root is the digest of all leaves.
func (t *Tree) Root() api.Digest {
	if t.Len() == 0 {
		return Root()
	}
	top := t.roots[len(t.roots)-1]
	return top[0]
}

// Prove is a leaf's proof.
func (t *Tree) Prove(i int) ([]api.Digest, api.Errno) {
	if e := t.check(i); e != api.OK {
		return nil, e
	}
	var proof []api.Digest
	for beside := range way(t.Len(), i) {
		proof = append(proof, t.roots[beside.height][beside.place])
	}
	return proof, api.OK
}

// check is the error of asking for the i-th leaf.
func (t *Tree) check(i int) api.Errno {
	switch {
	case t == nil:
		return api.ErrNil
	case !isPlace(i, t.Len()):
		return api.ErrRange
	}
	return api.OK
}

// rowAbove is the roots of the next height.
func rowAbove(row []api.Digest) []api.Digest {
	above := make([]api.Digest, (len(row)+1)/2)
	for i := range above {
		above[i] = rootOfPair(row, i)
	}
	return above
}

// rootOfPair is the root of the i-th pair of a row. The last one may have no neighbour: it goes up as it is.
func rootOfPair(row []api.Digest, i int) api.Digest {
	if 2*i+1 == len(row) {
		return row[2*i]
	}
	return Node(row[2*i], row[2*i+1])
}
