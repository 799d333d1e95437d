package store

import (
	"iter"
	"slices"

	"cupel/api"
)

// notes is what is noted of each record, in order.
type notes[T any] struct{ l []T }

// add notes of one record more.
func (n *notes[T]) add(x T) { n.l = append(n.l, x) }

// many is of how many records there are notes.
func (n *notes[T]) many() int { return len(n.l) }

// at is what is noted of one record.
func (n *notes[T]) at(i int) (T, api.Errno) {
	if i < 0 || i >= len(n.l) {
		var none T
		return none, api.ErrRange
	}
	return n.l[i], api.OK
}

// all is all notes, with their places.
func (n *notes[T]) all() iter.Seq2[int, T] { return slices.All(n.l) }
