package draw_test

import (
	"crypto/sha256"
	"encoding/binary"
	"math"
	"math/big"
	"math/rand/v2"
	"slices"
	"testing"

	"cupel/api"
	"cupel/draw"
	"cupel/tensor"
)

// This file tells the chapter's words once more, by the library's own hash and whole numbers of any length, to hold the package against it. Of the layers below only tensor's Top and Softmax are taken.

const (
	last     = math.MaxInt // 2^63 - 1
	heaviest = 1 << 31
	half     = 1<<62 + 1 // of which close to every second number is passed over
)

var (
	noughts = api.Digest{}
	ones    = filled(255)
	few     = api.Digest{1, 2}
)

func filled(b byte) api.Digest {
	var d api.Digest
	for i := range d {
		d[i] = b
	}
	return d
}

// counted is a seed that begins with a number.
func counted(n uint64) api.Digest {
	var d api.Digest
	binary.BigEndian.PutUint64(d[:], n)
	return d
}

// seeds is some of them, of which each bit is 0 in one and 1 in another.
func seeds() []api.Digest { return []api.Digest{noughts, ones, few, {31: 1}, counted(1 << 63)} }

// below0 is counts that may not be.
func below0() []int { return []int{-1, -2, -255, -1 << 31, -1 << 32, math.MinInt, math.MinInt + 1} }

func wantNumber(seed api.Digest, count int) int {
	b := binary.BigEndian.AppendUint32(nil, 32)
	b = append(b, seed[:]...)
	b = binary.BigEndian.AppendUint32(b, 8)
	d := sha256.Sum256(binary.BigEndian.AppendUint64(b, uint64(count)))
	n := new(big.Int).SetBytes(d[:8])
	return int(n.SetBit(n, 63, 0).Int64())
}

// twin is what a stream is held against.
type twin struct {
	seed  api.Digest
	count int
}

func (w *twin) next() (int, api.Errno) {
	if w.count == last {
		return 0, api.ErrOver
	}
	w.count++
	return wantNumber(w.seed, w.count-1), api.OK
}

// end is the greatest so many times n up to 2^63.
func end(n int) *big.Int {
	all := new(big.Int).Lsh(big.NewInt(1), 63)
	many := new(big.Int).Quo(all, big.NewInt(int64(n)))
	return many.Mul(many, big.NewInt(int64(n)))
}

func (w *twin) below(n int) (int, api.Errno) {
	if n < 1 {
		return 0, api.ErrRange
	}
	stood := w.count
	for range 64 {
		x, e := w.next()
		if e != api.OK {
			w.count = stood
			return 0, e
		}
		if big.NewInt(int64(x)).Cmp(end(n)) < 0 {
			return x % n, api.OK
		}
	}
	w.count = stood
	return 0, api.ErrNone
}

func (w *twin) choose(weights ...int) (int, api.Errno) {
	if len(weights) < 1 || len(weights) > 512 {
		return 0, api.ErrSize
	}
	if slices.Min(weights) < 0 || slices.Max(weights) > heaviest {
		return 0, api.ErrRange
	}
	if slices.Max(weights) == 0 {
		return 0, api.ErrNone
	}
	// sums is, for each place, all weights up to it, that one too.
	var sums []int
	for i, n := range weights {
		if i > 0 {
			n += sums[i-1]
		}
		sums = append(sums, n)
	}
	x, e := w.below(sums[len(sums)-1])
	if e != api.OK {
		return 0, e
	}
	return slices.IndexFunc(sums, func(sum int) bool { return sum > x }), api.OK
}

func (w *twin) pick(v []int, k int) (int, api.Errno) {
	top, e := tensor.Top(v, k)
	if e != api.OK {
		return 0, e
	}
	if k == 1 {
		return top[0], api.OK
	}
	var numbers []int
	for _, at := range top {
		numbers = append(numbers, v[at])
	}
	shares, e := tensor.Softmax(numbers)
	if e != api.OK {
		return 0, e
	}
	i, e := w.choose(shares...)
	if e != api.OK {
		return 0, e
	}
	return top[i], api.OK
}

// both is a stream and what it is held against.
type both struct {
	*testing.T
	s *draw.Stream
	w *twin
}

func bothOf(t *testing.T, seed api.Digest, count int) both {
	t.Helper()
	s, e := draw.New(seed, count)
	if s == nil || e != api.OK {
		t.Fatalf("New at %d: %d", count, int(e))
	}
	return both{t, s, &twin{seed, count}}
}

// same holds an answer, and where the stream stands behind it, against what is wanted.
func (b both) same(what string, of any, n int, e api.Errno, want int, wantE api.Errno) {
	b.Helper()
	if n != want || e != wantE || b.s.Count() != b.w.count {
		b.Fatalf("%s of %v: %d %d at %d, not %d %d at %d", what, of, n, int(e), b.s.Count(), want, int(wantE), b.w.count)
	}
}

func (b both) next() (int, api.Errno) {
	b.Helper()
	n, e := b.s.Next()
	want, wantE := b.w.next()
	b.same("Next", nil, n, e, want, wantE)
	return n, e
}

func (b both) below(of int) (int, api.Errno) {
	b.Helper()
	n, e := b.s.Below(of)
	want, wantE := b.w.below(of)
	b.same("Below", of, n, e, want, wantE)
	return n, e
}

func (b both) choose(of ...int) (int, api.Errno) {
	b.Helper()
	n, e := b.s.Choose(of...)
	want, wantE := b.w.choose(of...)
	b.same("Choose", of, n, e, want, wantE)
	return n, e
}

func (b both) pick(v []int, k int) (int, api.Errno) {
	b.Helper()
	n, e := b.s.Pick(v, k)
	want, wantE := b.w.pick(v, k)
	b.same("Pick", [][]int{v, {k}}, n, e, want, wantE)
	return n, e
}

// row is as many of a number.
func row(many, n int) []int {
	l := make([]int, many)
	for i := range l {
		l[i] = n
	}
	return l
}

// with is numbers of which one is another one.
func with(v []int, i, n int) []int {
	l := slices.Clone(v)
	l[i] = n
	return l
}

// rising is the numbers from 0 on.
func rising(many int) []int {
	l := make([]int, many)
	for i := range l {
		l[i] = i
	}
	return l
}

// newChance is numbers of all kinds, the same in each run.
func newChance(seed uint64) *rand.Rand { return rand.New(rand.NewPCG(seed, 63)) }
