package fixed_test

import (
	"math"
	"math/big"
	"math/rand/v2"
	"testing"

	"cupel/api"
)

// This file tells the chapter's words once more, by whole numbers of any length, to hold the package against it.

const (
	low  = -2147483648
	high = 2147483647
)

// edges are numbers at which answers turn, and what is none on either side.
var edges = []int{
	math.MinInt, math.MinInt + 1, -1 << 48, -1 << 47, -1 << 32, low - 65536, low - 2, low - 1,
	low, low + 1, low + 2, -2147450881, -2147450880, -16777216, -11863284, -11863283, -1048577, -1048576, -1048575, -131072, -98304,
	-65537, -65536, -65535, -46341, -32769, -32768, -32767, -257, -256, -3, -2, -1,
	0, 1, 2, 3, 255, 256, 257, 32767, 32768, 32769, 46341, 65535, 65536, 65537,
	98304, 131072, 262143, 262144, 262145, 1048575, 1048576, 1048577, 11863283, 11863284, 16777216, 2147450879, 2147450880, 2147450881, high - 2, high - 1, high,
	high + 1, high + 2, high + 65536, 1 << 32, 1 << 47, 1 << 48, math.MaxInt - 1, math.MaxInt,
}

// wantSteps is the steps of Exp from k 0 on.
func wantSteps() []int {
	return []int{
		65535, 65534, 65532, 65528, 65520, 65504, 65472, 65408, 65280, 65026,
		64520, 63520, 61565, 57835, 51039, 39750, 24109, 8869, 1200, 22,
	}
}

func isNumber(n int) bool { return -(1<<31) <= n && n <= 1<<31-1 }

// whole is the greatest whole number no greater than a fraction.
func whole(x *big.Rat) *big.Int {
	n := new(big.Int)
	n.Div(x.Num(), x.Denom()) // a fraction's lower part is above 0, of which Div goes down
	return n
}

// rounded is the greatest whole number no greater than a fraction and a half.
func rounded(x *big.Rat) *big.Int { return whole(new(big.Rat).Add(x, big.NewRat(1, 2))) }

func over(n *big.Int) (int, api.Errno) {
	if !n.IsInt64() || !isNumber(int(n.Int64())) {
		return 0, api.ErrOver
	}
	return int(n.Int64()), api.OK
}

func wantCheck(l ...int) api.Errno {
	for _, n := range l {
		if !isNumber(n) {
			return api.ErrRange
		}
	}
	return api.OK
}

func rat(n int) *big.Rat { return new(big.Rat).SetInt64(int64(n)) }

func wantAdd(a, b int) (int, api.Errno) {
	if e := wantCheck(a, b); e != api.OK {
		return 0, e
	}
	return over(whole(new(big.Rat).Add(rat(a), rat(b))))
}

func wantMul(a, b int) (int, api.Errno) {
	if e := wantCheck(a, b); e != api.OK {
		return 0, e
	}
	x := new(big.Rat).Mul(rat(a), rat(b))
	return over(rounded(x.Quo(x, rat(65536))))
}

func wantDiv(a, b int) (int, api.Errno) {
	if e := wantCheck(a, b); e != api.OK {
		return 0, e
	}
	if b == 0 {
		return 0, api.ErrZero
	}
	x := new(big.Rat).Mul(rat(a), rat(65536))
	return over(whole(x.Quo(x, rat(b))))
}

func wantRoot(n int) (int, api.Errno) {
	if n < 0 || !isNumber(n) {
		return 0, api.ErrRange
	}
	x := big.NewInt(int64(n))
	return int(x.Sqrt(x.Lsh(x, 16)).Int64()), api.OK
}

func wantExp(n int) (int, api.Errno) {
	switch {
	case n > 0:
		return 0, api.ErrRange
	case n <= -1048576:
		return 0, api.OK
	}
	x, l := 65536, wantSteps()
	for k := 19; k >= 0; k-- {
		if (-n)&(1<<k) != 0 {
			x = (2*x*l[k] + 65536) / 131072
		}
	}
	return x, api.OK
}

func wantGate(n int) (int, api.Errno) {
	if !isNumber(n) {
		return 0, api.ErrRange
	}
	below := n
	if n > 0 {
		below = -n
	}
	x, _ := wantExp(below)
	s := 65536 * 65536 / (65536 + x)
	if n < 0 {
		s = 65536 - s
	}
	return wantMul(n, s)
}

// sample is numbers of all lengths, the same in each run.
func sample(many int) []int {
	r := rand.New(rand.NewPCG(6, 65536))
	var l []int
	for range many {
		l = append(l, int(int32(r.Uint32()))>>r.IntN(32))
	}
	return l
}

// hold holds an answer against the one that is wanted.
func hold(t *testing.T, what string, l []int, n int, e api.Errno, want int, wantE api.Errno) {
	t.Helper()
	if n != want || e != wantE {
		t.Fatalf("%s of %d: %d %d, not %d %d", what, l, n, int(e), want, int(wantE))
	}
}
