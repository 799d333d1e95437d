package fixed_test

import (
	"math"
	"math/big"
	"testing"

	"cupel/api"
	"cupel/fixed"
)

// two is a call of two numbers, and what is wanted of it.
type two struct {
	name string
	call func(a, b int) (int, api.Errno)
	want func(a, b int) (int, api.Errno)
}

func twos() []two {
	return []two{
		{"Add", fixed.Add, wantAdd},
		{"Mul", fixed.Mul, wantMul},
		{"Div", fixed.Div, wantDiv},
	}
}

// told is what a call answers, told by hand or by another program.
type told struct {
	a, b, n int
	e       api.Errno
}

func holdTold(t *testing.T, name string, call func(a, b int) (int, api.Errno), l []told) {
	t.Helper()
	for _, c := range l {
		if n, e := call(c.a, c.b); n != c.n || e != c.e {
			t.Errorf("%s(%d, %d): %d %d, not %d %d", name, c.a, c.b, n, int(e), c.n, int(c.e))
		}
	}
}

func TestCheck(t *testing.T) { // P6.1
	for _, n := range []int{low, low + 1, -65536, -1, 0, 1, 65536, high - 1, high} {
		if e := fixed.Check(n); e != api.OK {
			t.Errorf("%d: %d", n, int(e))
		}
	}
	for _, n := range []int{low - 1, low - 2, -1 << 32, -1 << 62, math.MinInt, high + 1, high + 2, 1 << 32, 1 << 62, math.MaxInt} {
		if e := fixed.Check(n); e != api.ErrRange {
			t.Errorf("%d: %d", n, int(e))
		}
	}
	// Their lower half alone would be a number.
	for _, n := range []int{1 << 32, 1<<32 + 7, -1<<32 + 7, -1<<32 - 7, 1 << 40} {
		if e := fixed.Check(n); e != api.ErrRange {
			t.Errorf("%d: %d", n, int(e))
		}
	}
}

func TestExamples(t *testing.T) {
	if n, e := fixed.Mul(98304, 131072); n != 196608 || e != api.OK {
		t.Error(n, int(e))
	}
	if n, e := fixed.Root(131072); n != 92681 || e != api.OK {
		t.Error(n, int(e))
	}
	if n, e := fixed.Exp(-65536); n != 24109 || e != api.OK {
		t.Error(n, int(e))
	}
	if n, e := fixed.Gate(0); n != 0 || e != api.OK {
		t.Error(n, int(e))
	}
}

func TestAddTold(t *testing.T) { // P6.1
	holdTold(t, "Add", fixed.Add, []told{
		{0, 0, 0, api.OK}, {1, -3, -2, api.OK}, {65536, 65536, 131072, api.OK}, {65536, -65536, 0, api.OK},
		{low, high, -1, api.OK}, {low, 0, low, api.OK}, {high, 0, high, api.OK},
		{high - 1, 1, high, api.OK}, {1 << 30, 1<<30 - 1, high, api.OK},
		{high, 1, 0, api.ErrOver}, {1 << 30, 1 << 30, 0, api.ErrOver}, {high, high, 0, api.ErrOver},
		{low + 1, -1, low, api.OK}, {-1 << 30, -1 << 30, low, api.OK},
		{low, -1, 0, api.ErrOver}, {-1 << 30, -1<<30 - 1, 0, api.ErrOver}, {low, low, 0, api.ErrOver},
		{high + 1, -1, 0, api.ErrRange}, {-1, high + 1, 0, api.ErrRange}, {low - 1, 1, 0, api.ErrRange}, {1, low - 1, 0, api.ErrRange},
		{math.MaxInt, math.MinInt, 0, api.ErrRange}, {math.MaxInt, math.MaxInt, 0, api.ErrRange}, {math.MinInt, math.MinInt, 0, api.ErrRange},
	})
}

func TestMulTold(t *testing.T) { // P6.1
	holdTold(t, "Mul", fixed.Mul, []told{
		{65536, 7, 7, api.OK}, {-65536, 7, -7, api.OK}, {65536, 65536, 65536, api.OK}, {-65536, -65536, 65536, api.OK},
		{0, low, 0, api.OK}, {0, high, 0, api.OK}, {98304, -131072, -196608, api.OK}, {65535, 65537, 65536, api.OK},
		{12345678, -98765, -18605360, api.OK}, {46341, 46341, 32768, api.OK}, {low, 1, -32768, api.OK}, {high, 1, 32768, api.OK},
		{11863283, 11863283, 2147483574, api.OK}, {11863284, 11863284, 0, api.ErrOver},
		{-11863283, 11863283, -2147483574, api.OK}, {-11863284, 11863284, 0, api.ErrOver},
		{high, 65536, high, api.OK}, {high, -65536, -high, api.OK}, {high, 65537, 0, api.ErrOver},
		{low, 65536, low, api.OK}, {low, -65535, 2147450880, api.OK}, {low, -65536, 0, api.ErrOver}, {low, 65537, 0, api.ErrOver},
		{low, low, 0, api.ErrOver}, {low, high, 0, api.ErrOver}, {high, high, 0, api.ErrOver},
		{high, high + 1, 0, api.ErrRange}, {low - 1, 0, 0, api.ErrRange}, {0, high + 1, 0, api.ErrRange},
		{math.MinInt, -1, 0, api.ErrRange}, {math.MinInt, math.MinInt, 0, api.ErrRange}, {1 << 32, 1 << 32, 0, api.ErrRange},
	})
}

// TestMulJust has products that are 65536 times a number's last half before there is none, and the first ones behind.
func TestMulJust(t *testing.T) { // P6.1
	holdTold(t, "Mul", fixed.Mul, []told{
		{88513, 1590020543, high, api.OK},       // 2^47 - 32769
		{65537, 2147450880, 0, api.ErrOver},     // 2^47 - 32768
		{21004288, -6700417, low, api.OK},       // -2^47 - 32768
		{-58039213, 2424869, 0, api.ErrOver},    // -2^47 - 32769
		{-88513, -1590020543, high, api.OK},     // 2^47 - 32769
		{-65537, -2147450880, 0, api.ErrOver},   // 2^47 - 32768
		{-65537, 2147450880, -high, api.OK},     // -2^47 + 32768
		{-88513, 1590020543, -high, api.OK},     // -2^47 + 32769
		{-32768, 1<<31 - 1, -1<<30 + 1, api.OK}, // on a half that is no edge
	})
}

func TestMulHalf(t *testing.T) { // P6.1
	holdTold(t, "Mul", fixed.Mul, []told{
		{1, 32768, 1, api.OK}, {1, 32767, 0, api.OK}, {1, 32769, 1, api.OK},
		{-1, 32768, 0, api.OK}, {-1, 32767, 0, api.OK}, {-1, 32769, -1, api.OK},
		{3, 32768, 2, api.OK}, {-3, 32768, -1, api.OK}, {5, 32768, 3, api.OK}, {-5, 32768, -2, api.OK},
		{-1, -32768, 1, api.OK}, {256, 128, 1, api.OK}, {-256, 128, 0, api.OK},
	})
	for i := -1000; i < 1000; i++ {
		odd := 2*i + 1 // half of it is i and a half, which goes up to i + 1
		for _, c := range []told{{odd, 32768, i + 1, api.OK}, {odd * 32, 1024, i + 1, api.OK}, {odd, -32768, -i, api.OK}} {
			holdTold(t, "Mul", fixed.Mul, []told{c, {c.b, c.a, c.n, c.e}})
		}
	}
}

func TestDivTold(t *testing.T) { // P6.1
	holdTold(t, "Div", fixed.Div, []told{
		{1, 2, 32768, api.OK}, {1, 3, 21845, api.OK}, {-1, 3, -21846, api.OK}, {1, -3, -21846, api.OK}, {-1, -3, 21845, api.OK},
		{7, 3, 152917, api.OK}, {-7, 3, -152918, api.OK}, {7, -3, -152918, api.OK}, {-7, -3, 152917, api.OK},
		{6, 3, 131072, api.OK}, {-6, 3, -131072, api.OK}, {6, -3, -131072, api.OK}, {-6, -3, 131072, api.OK},
		{98304, 131072, 49152, api.OK}, {196608, 131072, 98304, api.OK}, {12345678, -98765, -8192036, api.OK},
		{high, 65536, high, api.OK}, {low, 65536, low, api.OK}, {high, -65536, -high, api.OK}, {high, high, 65536, api.OK},
		{low, low, 65536, api.OK}, {low, high, -65537, api.OK}, {high, low, -65536, api.OK},
		{0, low, 0, api.OK}, {1, low, -1, api.OK}, {-1, low, 0, api.OK}, {65536, low, -2, api.OK}, {-65536, low, 2, api.OK},
		{0, 1, 0, api.OK}, {0, -1, 0, api.OK}, {0, high, 0, api.OK},
	})
}

func TestDivJust(t *testing.T) { // P6.1
	holdTold(t, "Div", fixed.Div, []told{
		{32767, 1, 2147418112, api.OK}, {32768, 1, 0, api.ErrOver}, {-32768, 1, low, api.OK}, {-32769, 1, 0, api.ErrOver},
		{-32767, -1, 2147418112, api.OK}, {-32768, -1, 0, api.ErrOver}, {32768, -1, low, api.OK}, {32769, -1, 0, api.ErrOver},
		{2147450879, 65535, high - 1, api.OK}, {2147450880, 65535, 0, api.ErrOver},
		{-2147450880, 65535, low, api.OK}, {-2147450881, 65535, 0, api.ErrOver},
		{high, 65535, 0, api.ErrOver}, {low, 65535, 0, api.ErrOver}, {low, -65536, 0, api.ErrOver}, {low, -65537, 2147450880, api.OK},
		{low, 1, 0, api.ErrOver}, {low, -1, 0, api.ErrOver}, {high, 1, 0, api.ErrOver}, {high, -1, 0, api.ErrOver},
	})
}

func TestDivHalf(t *testing.T) { // P6.1
	for i := -1000; i < 1000; i++ {
		odd := 2*i + 1 // half of it is i and a half, which goes down to i
		holdTold(t, "Div", fixed.Div, []told{
			{odd, 131072, i, api.OK}, {odd, -131072, -i - 1, api.OK},
			{odd * 1024, 134217728, i, api.OK}, {odd * 1024, -134217728, -i - 1, api.OK},
		})
	}
}

func TestDivWrong(t *testing.T) { // P6.1, R1
	for _, n := range []int{low, -65536, -1, 0, 1, 65536, high} {
		holdTold(t, "Div", fixed.Div, []told{{n, 0, 0, api.ErrZero}})
	}
	// That one of these is no number is told ahead of the other one's being 0.
	for _, n := range []int{low - 1, high + 1, math.MinInt, math.MaxInt} {
		holdTold(t, "Div", fixed.Div, []told{
			{n, 0, 0, api.ErrRange}, {0, n, 0, api.ErrRange}, {n, n, 0, api.ErrRange}, {n, -1, 0, api.ErrRange}, {n, 1, 0, api.ErrRange}, {5, n, 0, api.ErrRange},
		})
	}
}

func TestTwo(t *testing.T) { // P6.1, R1
	l := append(sample(150), edges...)
	for _, c := range twos() {
		for _, a := range l {
			for _, b := range l {
				n, e := c.call(a, b)
				want, wantE := c.want(a, b)
				hold(t, c.name, []int{a, b}, n, e, want, wantE)
			}
		}
	}
}

func TestOrderOfTwo(t *testing.T) { // P6.3
	l := append(sample(300), edges...)
	for _, c := range twos()[:2] {
		for i, a := range l {
			for _, b := range l[:i] {
				n, e := c.call(a, b)
				back, backE := c.call(b, a)
				hold(t, c.name, []int{b, a}, back, backE, n, e)
			}
		}
	}
}

// TestDivOfMul holds that what Div makes of Mul is off by no more than a half divided by b, in the one of 65536, and the part of one that Div leaves.
func TestDivOfMul(t *testing.T) { // P6.3
	l := append(sample(300), edges...)
	held := 0
	for _, a := range l {
		for _, b := range l {
			product, e := fixed.Mul(a, b)
			if e != api.OK || b == 0 {
				continue
			}
			n, e := fixed.Div(product, b)
			if e != api.OK {
				if wide := 32768/max(b, -b) + 1; a > low+wide && a < high-wide {
					t.Fatalf("%d times %d: %d", a, b, int(e))
				}
				continue
			}
			off := new(big.Rat).SetInt64(int64(n - a))
			half := big.NewRat(32768, int64(max(b, -b)))
			least := new(big.Rat).Sub(new(big.Rat).Neg(half), rat(1))
			if off.Cmp(half) > 0 || off.Cmp(least) <= 0 {
				t.Fatalf("%d times %d is %d, divided %d", a, b, product, n)
			}
			held++
		}
	}
	if held < 20000 {
		t.Error(held)
	}
}

func FuzzTwo(f *testing.F) { // P6.1, P6.3
	for i, a := range edges {
		f.Add(a, edges[len(edges)-1-i])
		f.Add(a, 0)
		f.Add(a, -1)
	}
	f.Fuzz(func(t *testing.T, a, b int) {
		for _, c := range twos() {
			for _, l := range [][2]int{{a, b}, {b, a}, {int(int32(a)), int(int32(b))}, {int(int32(a)), int(int16(b))}} {
				n, e := c.call(l[0], l[1])
				want, wantE := c.want(l[0], l[1])
				hold(t, c.name, l[:], n, e, want, wantE)
			}
		}
		if e := fixed.Check(a); e != wantCheck(a) {
			t.Errorf("%d: %d", a, int(e))
		}
	})
}
