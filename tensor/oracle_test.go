package tensor_test

import (
	"math"
	"math/big"
	"math/rand/v2"
	"slices"
	"testing"

	"cupel/api"
	"cupel/fixed"
	"cupel/tensor"
)

// This file tells the chapter's words once more, by whole numbers of any length, to hold the package against it.

const (
	low    = -2147483648
	high   = 2147483647
	weight = 16777216
)

func isNumber(n int) bool { return low <= n && n <= high }

func isWeight(n int) bool { return -weight <= n && n <= weight }

// noNumbers is what is no number, on either side.
func noNumbers() []int {
	return []int{high + 1, high + 2, low - 1, low - 2, 1 << 32, 1<<32 + 7, -1<<32 + 7, -1 << 40, math.MaxInt, math.MinInt, math.MinInt + 1}
}

// noWeights is what is no weight, on either side, also where it is no number.
func noWeights() []int {
	return append(noNumbers(), weight+1, weight+2, -weight-1, -weight-2, 1<<25, -1<<25, high, low)
}

// noCounts is what nothing may be as many as, or stand at.
func noCounts() []int {
	return []int{-1, -2, -64, -512, -1 << 32, math.MinInt, math.MinInt + 1, math.MaxInt, math.MaxInt - 1}
}

// row is as many of a number.
func row(many, n int) []int {
	l := make([]int, many)
	for i := range l {
		l[i] = n
	}
	return l
}

// with is numbers of which one is another one.
func with(v []int, i, n int) []int {
	l := slices.Clone(v)
	l[i] = n
	return l
}

func joined(l ...[]int) []int { return slices.Concat(l...) }

// number is a whole number, or ErrOver if it is no number.
func number(x *big.Int) (int, api.Errno) {
	if !x.IsInt64() || !isNumber(int(x.Int64())) {
		return 0, api.ErrOver
	}
	return int(x.Int64()), api.OK
}

// rounded is the greatest whole number no greater than a 65536th of x and a half.
func rounded(x *big.Int) (int, api.Errno) {
	half := new(big.Int).Add(x, big.NewInt(32768))
	return number(half.Div(half, big.NewInt(65536))) // big.Int's Div goes down, of what is above 0
}

// products is all products together.
func products(a, b []int) *big.Int {
	sum := new(big.Int)
	for i := range a {
		sum.Add(sum, new(big.Int).Mul(big.NewInt(int64(a[i])), big.NewInt(int64(b[i]))))
	}
	return sum
}

func wantCheck(v []int) api.Errno {
	if len(v) == 0 || len(v) > 512 {
		return api.ErrSize
	}
	for _, n := range v {
		if !isNumber(n) {
			return api.ErrRange
		}
	}
	return api.OK
}

func wantMatrix(m tensor.Matrix) api.Errno {
	if m.Rows < 1 || m.Rows > 512 || m.Cols < 1 || m.Cols > 64 || len(m.L) != m.Rows*m.Cols {
		return api.ErrSize
	}
	for _, n := range m.L {
		if !isWeight(n) {
			return api.ErrRange
		}
	}
	return api.OK
}

func wantRow(m tensor.Matrix, i int) ([]int, api.Errno) {
	if e := wantMatrix(m); e != api.OK {
		return nil, e
	}
	if i < 0 || i > m.Rows-1 {
		return nil, api.ErrRange
	}
	return m.L[m.Cols*i : m.Cols*(i+1)], api.OK
}

func wantDot(row, v []int) (int, api.Errno) {
	if len(row) != len(v) || len(row) == 0 || len(row) > 64 {
		return 0, api.ErrSize
	}
	for i := range row {
		if !isWeight(row[i]) || !isNumber(v[i]) {
			return 0, api.ErrRange
		}
	}
	return rounded(products(row, v))
}

func wantMul(m tensor.Matrix, v []int) ([]int, api.Errno) {
	if e := wantMatrix(m); e != api.OK {
		return nil, e
	}
	if len(v) != m.Cols {
		return nil, api.ErrSize
	}
	var l []int
	for i := range m.Rows {
		row, _ := wantRow(m, i)
		n, e := wantDot(row, v)
		if e != api.OK {
			return nil, e
		}
		l = append(l, n)
	}
	return l, api.OK
}

func wantAdd(a, b []int) ([]int, api.Errno) {
	if len(a) != len(b) {
		return nil, api.ErrSize
	}
	for _, v := range [][]int{a, b} {
		if e := wantCheck(v); e != api.OK {
			return nil, e
		}
	}
	var l []int
	for i := range a {
		if !isNumber(a[i] + b[i]) {
			return nil, api.ErrOver
		}
		l = append(l, a[i]+b[i])
	}
	return l, api.OK
}

// wantRoot is what numbers are divided by: the root of 1 and the mean of their squares.
func wantRoot(v []int) (*big.Int, api.Errno) {
	sum := new(big.Int)
	for _, n := range v {
		square := products([]int{n}, []int{n})
		sum.Add(sum, square.Div(square, big.NewInt(65536)))
	}
	mean := sum.Div(sum, big.NewInt(int64(len(v))))
	n, e := number(mean.Add(mean, big.NewInt(1)))
	if e != api.OK {
		return nil, e
	}
	r := new(big.Int).Lsh(big.NewInt(int64(n)), 16)
	r.Sqrt(r)
	if r.Sign() == 0 {
		r.SetInt64(1)
	}
	return r, api.OK
}

func wantNorm(v, g []int) ([]int, api.Errno) {
	if len(v) != len(g) || len(v) > 64 {
		return nil, api.ErrSize
	}
	for _, v := range [][]int{v, g} {
		if e := wantCheck(v); e != api.OK {
			return nil, e
		}
	}
	r, e := wantRoot(v)
	if e != api.OK {
		return nil, e
	}
	var l []int
	for i := range v {
		x := new(big.Int).Lsh(big.NewInt(int64(v[i])), 16)
		n, e := number(x.Div(x, r))
		if e != api.OK {
			return nil, e
		}
		if n, e = rounded(products([]int{n}, []int{g[i]})); e != api.OK {
			return nil, e
		}
		l = append(l, n)
	}
	return l, api.OK
}

func wantSoftmax(v []int) ([]int, api.Errno) {
	if e := wantCheck(v); e != api.OK {
		return nil, e
	}
	most, all := slices.Max(v), 0
	var l []int
	for _, n := range v {
		x, _ := fixed.Exp(n - most)
		all += x
		l = append(l, x)
	}
	for i, x := range l {
		l[i] = int(uint(x) * 65536 / uint(all))
	}
	return l, api.OK
}

func wantMix(shares []int, l ...[]int) ([]int, api.Errno) {
	if len(l) == 0 || len(l) > 64 || len(shares) != len(l) {
		return nil, api.ErrSize
	}
	for _, v := range l {
		if len(v) != len(l[0]) || len(v) == 0 || len(v) > 512 {
			return nil, api.ErrSize
		}
	}
	for k, v := range l {
		if wantCheck(v) != api.OK || shares[k] < 0 || shares[k] > 65536 {
			return nil, api.ErrRange
		}
	}
	var mixed []int
	for i := range l[0] {
		var here []int
		for _, v := range l {
			here = append(here, v[i])
		}
		n, e := rounded(products(shares, here))
		if e != api.OK {
			return nil, e
		}
		mixed = append(mixed, n)
	}
	return mixed, api.OK
}

// wantTurned is a, b turned by c, d.
func wantTurned(a, b, c, d int) (int, int, api.Errno) {
	var l [4]int
	for i, f := range [][2]int{{a, c}, {b, d}, {a, d}, {b, c}} {
		n, e := rounded(products(f[:1], f[1:]))
		if e != api.OK {
			return 0, 0, e
		}
		l[i] = n
	}
	x, y := l[0]-l[1], l[2]+l[3]
	if !isNumber(x) || !isNumber(y) {
		return 0, 0, api.ErrOver
	}
	return x, y, api.OK
}

// turn is what the j-th pair, of the first four, is turned by from a place to the next one.
func turn(j int) (c, d int) {
	switch j {
	case 0:
		return 39322, 52429
	case 1:
		return 60495, 25206
	case 2:
		return 57826, 30840
	}
	return 62915, 18350
}

func wantAngle(j, at int) [2]int {
	c, d := 65536, 0
	x, y := turn(j)
	for range at {
		c, d, _ = wantTurned(c, d, x, y)
	}
	return [2]int{c, d}
}

func wantRotate(v []int, at int) ([]int, api.Errno) {
	if len(v)%2 == 1 {
		return nil, api.ErrSize
	}
	if e := wantCheck(v); e != api.OK {
		return nil, e
	}
	if at < 0 || at > 1023 {
		return nil, api.ErrRange
	}
	var l []int
	var angles [4][2]int
	for j := range angles {
		angles[j] = wantAngle(j, at)
	}
	for j := range len(v) / 2 {
		x, y, e := wantTurned(v[2*j], v[2*j+1], angles[j%4][0], angles[j%4][1])
		if e != api.OK {
			return nil, e
		}
		l = append(l, x, y)
	}
	return l, api.OK
}

// wantTop takes the greatest one that is left, k times.
func wantTop(v []int, k int) ([]int, api.Errno) {
	if e := wantCheck(v); e != api.OK {
		return nil, e
	}
	if k < 1 || k > len(v) {
		return nil, api.ErrRange
	}
	var l []int
	taken := make([]bool, len(v))
	for range k {
		best := -1
		for i, n := range v {
			if !taken[i] && (best < 0 || n > v[best]) {
				best = i
			}
		}
		taken[best] = true
		l = append(l, best)
	}
	return l, api.OK
}

func wantMost(v []int) (int, api.Errno) {
	l, e := wantTop(v, 1)
	if e != api.OK {
		return 0, e
	}
	return l[0], api.OK
}

// chance is numbers of all kinds, the same in each run.
type chance struct{ *rand.Rand }

func newChance(seed uint64) chance { return chance{rand.New(rand.NewPCG(seed, 65536))} }

// number is one of any length, at times the least or the greatest one, and once in many times none.
func (c chance) number() int {
	switch c.IntN(64) {
	case 0:
		return low
	case 1:
		return high
	case 2:
		if c.IntN(200) == 0 {
			return noNumbers()[c.IntN(len(noNumbers()))]
		}
	}
	return int(int32(c.Uint32())) >> c.IntN(32)
}

// weight is one of any length, at times the least or the greatest one, and once in many times none.
func (c chance) weight() int {
	switch c.IntN(64) {
	case 0:
		return -weight
	case 1:
		return weight
	case 2:
		if c.IntN(200) == 0 {
			return noWeights()[c.IntN(len(noWeights()))]
		}
	}
	return int(int32(c.Uint32())) >> (7 + c.IntN(25))
}

// vector is as many numbers, none of which has more than so many bits.
func (c chance) vector(many, bits int) []int {
	l := make([]int, many)
	for i := range l {
		l[i] = c.number() >> (31 - bits)
	}
	return l
}

// size is one up to the greatest, and at times beyond it, or 0.
func (c chance) size(most int) int {
	switch c.IntN(32) {
	case 0:
		return most
	case 1:
		return most + 1
	case 2:
		return 0
	case 3, 4, 5:
		return 1
	}
	return 1 + c.IntN(most>>c.IntN(5))
}

// hold holds a list, and an error, against those that are wanted.
func hold(t *testing.T, what string, l []int, e api.Errno, want []int, wantE api.Errno) {
	t.Helper()
	if !slices.Equal(l, want) || e != wantE {
		t.Fatalf("%s: %d %d, not %d %d", what, l, int(e), want, int(wantE))
	}
}

// holdOne holds a number, and an error, against those that are wanted.
func holdOne(t *testing.T, what string, n int, e api.Errno, want int, wantE api.Errno) {
	t.Helper()
	if n != want || e != wantE {
		t.Fatalf("%s: %d %d, not %d %d", what, n, int(e), want, int(wantE))
	}
}
