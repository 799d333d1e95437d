package tensor

import (
	"slices"

	"cupel/api"
	"cupel/fixed"
)

// Norm is a vector divided by the root of its mean square, times another one.
func Norm(v, g []int) ([]int, api.Errno) {
	if !areSame(v, g) || len(v) > api.MaxDim {
		return nil, api.ErrSize
	}
	if e := check(v, g); e != api.OK {
		return nil, e
	}
	root, e := meanRoot(v)
	if e != api.OK {
		return nil, e
	}
	return together(func(l []int) (int, api.Errno) {
		n, e := fixed.Div(l[0], root)
		if e != api.OK {
			return 0, e
		}
		return fixed.Mul(n, l[1])
	}, v, g)
}

// meanRoot is the root of 1 and the mean of numbers' squares. As that of 1 is 256 already, it is never 0.
func meanRoot(v []int) (int, api.Errno) {
	sum := 0
	for _, n := range v {
		sum += n * n / api.One
	}
	square, e := inRange(1 + sum/len(v))
	if e != api.OK {
		return 0, e
	}
	return fixed.Root(square)
}

// Softmax is the shares of numbers.
func Softmax(v []int) ([]int, api.Errno) {
	if e := check(v); e != api.OK {
		return nil, e
	}
	greatest := slices.Max(v)
	shares, e := together(func(l []int) (int, api.Errno) { return fixed.Exp(l[0] - greatest) }, v)
	if e != api.OK {
		return nil, e
	}
	all := 0
	for _, n := range shares {
		all += n
	}
	for i, n := range shares {
		shares[i] = n * api.One / all
	}
	return shares, api.OK
}

// Mix is vectors together, each by its share.
func Mix(shares []int, l ...[]int) ([]int, api.Errno) {
	if !isCount(len(l), api.MaxDim) || len(shares) != len(l) || !areSame(l...) {
		return nil, api.ErrSize
	}
	if e := check(l...); e != api.OK {
		return nil, e
	}
	for _, n := range shares {
		if n < 0 || n > api.One {
			return nil, api.ErrRange
		}
	}
	return together(func(here []int) (int, api.Errno) { return scaled(shares, here) }, l...)
}
