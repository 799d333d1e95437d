package tensor

import (
	"cupel/api"
	"cupel/fixed"
)

// places is how many places there are to turn a pair by.
const places = 1024

// pair is two numbers that are turned together.
type pair struct{ a, b int }

// angles is what is turned by from a place to the next one, of the first four pairs. Each four behind have the same.
var angles = [4]pair{{39322, 52429}, {60495, 25206}, {57826, 30840}, {62915, 18350}}

// Rotate is pairs of numbers, each turned by a place.
func Rotate(v []int, at int) ([]int, api.Errno) {
	if len(v)%2 != 0 {
		return nil, api.ErrSize
	}
	if e := check(v); e != api.OK {
		return nil, e
	}
	if at < 0 || at >= places {
		return nil, api.ErrRange
	}
	pairs := pairsOf(v)
	turned, e := together(func(l []pair) (pair, api.Errno) { return l[0].turned(l[1]) }, pairs, anglesAt(at, len(pairs)))
	if e != api.OK {
		return nil, e
	}
	return numbersOf(turned), api.OK
}

// anglesAt is the angles of a place, of so many pairs.
func anglesAt(at, many int) []pair {
	l := make([]pair, many)
	for j := range l {
		if j < len(angles) {
			l[j] = angles[j].repeated(at)
		} else {
			l[j] = l[j-len(angles)]
		}
	}
	return l
}

// repeated is one, turned by a pair so many times.
func (p pair) repeated(times int) pair {
	sum := pair{api.One, 0}
	for range times {
		// Angles are all but as long as one: turned by them, it stays far from where numbers end.
		sum, _ = sum.turned(p)
	}
	return sum
}

// turned is a pair turned by another one.
func (p pair) turned(by pair) (pair, api.Errno) {
	var products [4]int
	for i, f := range [...]pair{{p.a, by.a}, {p.b, by.b}, {p.a, by.b}, {p.b, by.a}} {
		n, e := fixed.Mul(f.a, f.b)
		if e != api.OK {
			return pair{}, e
		}
		products[i] = n
	}
	// Less what is the least number is more than fixed.Add takes.
	a, e := inRange(products[0] - products[1])
	if e != api.OK {
		return pair{}, e
	}
	b, e := fixed.Add(products[2], products[3])
	if e != api.OK {
		return pair{}, e
	}
	return pair{a, b}, api.OK
}

// pairsOf is numbers two by two.
func pairsOf(v []int) []pair {
	l := make([]pair, len(v)/2)
	for j := range l {
		l[j] = pair{v[2*j], v[2*j+1]}
	}
	return l
}

// numbersOf is pairs as numbers, one behind the other.
func numbersOf(l []pair) []int {
	v := make([]int, 0, 2*len(l))
	for _, p := range l {
		v = append(v, p.a, p.b)
	}
	return v
}
