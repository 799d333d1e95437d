package draw

import (
	"cupel/api"
)

// maxTaken is how many numbers are taken for one that is drawn.
const maxTaken = 64

// drawn is what a method of a stream draws of something. After an error the stream goes back to where it stood.
func drawn[T any](s *Stream, draw func(of T) (int, api.Errno), of T) (int, api.Errno) {
	if s == nil {
		return 0, api.ErrNil
	}
	stood := s.count
	n, e := draw(of)
	if e != api.OK {
		s.count = stood
		return 0, e
	}
	return n, api.OK
}

// below is Below, but that it may stand anywhere after an error.
func (s *Stream) below(n int) (int, api.Errno) {
	if n < 1 {
		return 0, api.ErrRange
	}
	end := lastMultiple(n)
	left, e := 0, api.ErrNone
taken:
	for range maxTaken {
		number, wrong := s.Next()
		switch {
		case wrong != api.OK:
			e = wrong
			break taken
		case uint64(number) < end:
			left, e = number%n, api.OK
			break taken
		}
	}
	return left, e
}

// lastMultiple is the greatest so many times n up to 2^63, which itself is no int.
func lastMultiple(n int) uint64 {
	const numbers = 1 << 63
	return numbers - numbers%uint64(n)
}
