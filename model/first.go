package model

import "cupel/api"

// first holds the first error of what is done, one thing behind the other. Behind it nothing is done any more.
type first struct{ e api.Errno }

// of is what do makes of a thing.
func of[A, B any](f *first, do func(A) (B, api.Errno), a A) B {
	var made B
	if f.e == api.OK {
		made, f.e = do(a)
	}
	return made
}

// ofTwo is what do makes of two things.
func ofTwo[A, B, C any](f *first, do func(A, B) (C, api.Errno), a A, b B) C {
	return of(f, func(b B) (C, api.Errno) { return do(a, b) }, b)
}

// ofEach is what do makes of each thing of a list, one behind the other.
func ofEach[A, B any](f *first, do func(A) (B, api.Errno), l []A) []B {
	made := make([]B, 0, len(l))
	for _, a := range l {
		made = append(made, of(f, do, a))
	}
	return made
}

// ofEachTwo is what do makes of each two things of two lists, which have to be as long as each other.
func ofEachTwo[A, B, C any](f *first, do func(A, B) (C, api.Errno), a []A, b []B) []C {
	if f.e == api.OK && len(a) != len(b) {
		f.e = api.ErrSize
	}
	if f.e != api.OK {
		return nil
	}
	made := make([]C, 0, len(a))
	for i := range a {
		made = append(made, ofTwo(f, do, a[i], b[i]))
	}
	return made
}

// leave is what came of it all, or nothing and the first error.
func leave[T any](f *first, made T) (T, api.Errno) {
	if f.e != api.OK {
		var none T
		return none, f.e
	}
	return made, api.OK
}
