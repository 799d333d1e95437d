package fixed_test

import (
	"math"
	"sync"
	"testing"

	"cupel/api"
	"cupel/fixed"
)

// noPower is the greatest number of which Exp is 0 whatever its bits are.
const noPower = -1048576

// one is a call of a number, and what is wanted of it.
type one struct {
	name string
	call func(n int) (int, api.Errno)
	want func(n int) (int, api.Errno)
}

func ones() []one {
	return []one{
		{"Root", fixed.Root, wantRoot},
		{"Exp", fixed.Exp, wantExp},
		{"Gate", fixed.Gate, wantGate},
	}
}

// holdKnown holds the answers to numbers, each with its answer behind it, that another program has worked out.
func holdKnown(t *testing.T, call func(n int) (int, api.Errno), l [][2]int) {
	t.Helper()
	for _, c := range l {
		if n, e := call(c[0]); n != c[1] || e != api.OK {
			t.Errorf("%d: %d %d, not %d", c[0], n, int(e), c[1])
		}
	}
}

func holdRange(t *testing.T, call func(n int) (int, api.Errno), l ...int) {
	t.Helper()
	for _, n := range l {
		if x, e := call(n); x != 0 || e != api.ErrRange {
			t.Errorf("%d: %d %d", n, x, int(e))
		}
	}
}

func TestRootKnown(t *testing.T) { // P6.2
	holdKnown(t, fixed.Root, [][2]int{
		{0, 0}, {1, 256}, {2, 362}, {3, 443}, {4, 512}, {65535, 65535}, {65536, 65536}, {65537, 65536}, {131072, 92681},
		{262143, 131071}, {262144, 131072}, {262145, 131072}, {589824, 196608}, {1 << 30, 8388608}, {high - 1, 11863283}, {high, 11863283},
	})
}

func TestRootWrong(t *testing.T) { // P6.2, R1
	holdRange(t, fixed.Root, -1, -2, -65536, low, low-1, math.MinInt, math.MinInt+1, high+1, high+2, 1<<32, 1<<32+4, 1<<47, 1<<48, math.MaxInt)
}

// holdRoot holds a root by its square and by the one of the next number.
func holdRoot(t *testing.T, n int) {
	t.Helper()
	r, e := fixed.Root(n)
	if e != api.OK || r < 0 || r*r > n*65536 || (r+1)*(r+1) <= n*65536 {
		t.Fatalf("%d: %d %d", n, r, int(e))
	}
}

func TestRootOfSquares(t *testing.T) { // P6.2
	for k := 1; k*k <= high; k++ {
		if r, e := fixed.Root(k * k); r != 256*k || e != api.OK {
			t.Fatalf("%d squared: %d %d", k, r, int(e))
		}
		holdRoot(t, k*k-1)
		holdRoot(t, k*k+1)
	}
	for n := range 70000 {
		holdRoot(t, n)
		holdRoot(t, high-n)
	}
}

func TestExpKnown(t *testing.T) { // P6.2
	holdKnown(t, fixed.Exp, [][2]int{
		{0, 65536}, {-1, 65535}, {-2, 65534}, {-3, 65533}, {-4, 65532}, {-12345, 54283}, {-45426, 32767}, {-54321, 28609},
		{-65535, 24109}, {-65536, 24109}, {-65537, 24109}, {-100000, 14249}, {-131072, 8869}, {-333333, 405}, {-349525, 316},
		{-524287, 22}, {-524288, 22}, {-524289, 22}, {-699050, 2}, {-720000, 2}, {-800000, 0}, {-1048574, 0}, {-1048575, 0},
	})
}

func TestExpOfEachBit(t *testing.T) { // P6.2
	for k, step := range wantSteps() {
		if n, e := fixed.Exp(-1 << k); n != step || e != api.OK {
			t.Errorf("bit %d: %d %d, not %d", k, n, int(e), step)
		}
	}
}

// TestExpOfAll goes through every number of which Exp has a bit, and holds the row of answers by one sum, which another program has worked out.
func TestExpOfAll(t *testing.T) { // P6.2, P6.3
	sum := uint32(0)
	for n := 0; n >= noPower; n-- {
		x, e := fixed.Exp(n)
		want, wantE := wantExp(n)
		hold(t, "Exp", []int{n}, x, e, want, wantE)
		if x < 0 || x > api.One {
			t.Fatalf("%d: %d", n, x)
		}
		sum = sum*31 + uint32(x)
	}
	if sum != 3183753432 {
		t.Error(sum)
	}
}

func TestExpFarBelow(t *testing.T) { // P6.2
	for _, n := range []int{noPower, noPower - 1, noPower - 2, noPower - 65536, -1<<21 - 1, low + 1, low, low - 1, -1<<32 - 1, -1<<40 - 3, -1 << 62, math.MinInt + 1, math.MinInt} {
		if x, e := fixed.Exp(n); x != 0 || e != api.OK {
			t.Errorf("%d: %d %d", n, x, int(e))
		}
	}
}

func TestExpWrong(t *testing.T) { // P6.2, R1
	holdRange(t, fixed.Exp, 1, 2, 65536, 1048576, high, high+1, 1<<32, 1<<62, math.MaxInt)
}

func TestGateKnown(t *testing.T) { // P6.2
	holdKnown(t, fixed.Gate, [][2]int{
		{0, 0}, {1, 1}, {-1, 0}, {2, 1}, {-2, -1}, {3, 2}, {-3, -1}, {32768, 20397}, {-32768, -12371},
		{65535, 47909}, {65536, 47910}, {65537, 47911}, {-65535, -17626}, {-65536, -17626}, {-65537, -17626},
		{100000, 82140}, {-100000, -17860}, {333333, 331283}, {-333333, -2050}, {524288, 524112}, {-524288, -176},
		{1048575, 1048575}, {1048576, 1048576}, {1048577, 1048577}, {-1048575, 0}, {-1048576, 0}, {-1048577, 0},
		{12345678, 12345678}, {-12345678, 0}, {high - 1, high - 1}, {high, high}, {low + 1, 0}, {low, 0},
	})
}

func TestGateWrong(t *testing.T) { // P6.2, R1
	holdRange(t, fixed.Gate, high+1, high+2, low-1, low-2, 1<<32, -1<<32, math.MaxInt, math.MinInt, math.MinInt+1)
}

// TestGateNoFurther goes through numbers on either side of those that Exp makes 0 of.
func TestGateNoFurther(t *testing.T) { // P6.2, P6.3
	l := append(sample(20000), low, low+1, high-1, high)
	for n := noPower - 100; n <= -noPower+100; n += 3 {
		l = append(l, n)
	}
	for _, n := range l {
		x, e := fixed.Gate(n)
		if e != api.OK || x < min(n, -n) || x > max(n, -n) {
			t.Fatalf("%d: %d %d", n, x, int(e))
		}
	}
}

func TestOne(t *testing.T) { // P6.2, R1
	l := append(sample(3000), edges...)
	for n := range 5000 {
		l = append(l, n, -n)
	}
	for _, c := range ones() {
		for _, n := range l {
			x, e := c.call(n)
			want, wantE := c.want(n)
			hold(t, c.name, []int{n}, x, e, want, wantE)
		}
	}
}

// TestSideBySide asks all calls at once, forward and backward: what is answered hangs on the numbers alone.
func TestSideBySide(t *testing.T) { // R3
	var all sync.WaitGroup
	for back := range 8 {
		all.Go(func() {
			for i := range edges {
				n := edges[i]
				if back%2 == 1 {
					n = edges[len(edges)-1-i]
				}
				for _, c := range ones() {
					x, e := c.call(n)
					if want, wantE := c.want(n); x != want || e != wantE {
						t.Errorf("%s of %d: %d %d", c.name, n, x, int(e))
					}
				}
				for _, c := range twos() {
					x, e := c.call(n, edges[i])
					if want, wantE := c.want(n, edges[i]); x != want || e != wantE {
						t.Errorf("%s of %d and %d: %d %d", c.name, n, edges[i], x, int(e))
					}
				}
			}
		})
	}
	all.Wait()
}

func FuzzOne(f *testing.F) { // P6.2, P6.3
	for _, n := range edges {
		f.Add(n)
	}
	f.Fuzz(func(t *testing.T, n int) {
		for _, c := range ones() {
			for _, n := range []int{n, -n, int(int32(n)), -(n & (1<<20 - 1))} {
				x, e := c.call(n)
				want, wantE := c.want(n)
				hold(t, c.name, []int{n}, x, e, want, wantE)
			}
		}
	})
}
