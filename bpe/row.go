package bpe

// row is things one behind the other, of which neighbours are merged.
type row[T comparable] struct {
	l []T
}

// merge has all neighbours a and b, from the left, become one thing, none of them twice.
func (r *row[T]) merge(a, b, merged T) {
	// Never more is written than has been read, so all of it stands in one row.
	written, read := 0, 0
places:
	for {
		switch rest := r.l[read:]; {
		case len(rest) == 0:
			break places
		case len(rest) > 1 && rest[0] == a && rest[1] == b:
			r.l[written] = merged
			read += 2
		default:
			r.l[written] = rest[0]
			read++
		}
		written++
	}
	r.l = r.l[:written]
}
