package tensor_test

import (
	"strconv"
	"testing"

	"cupel/api"
	"cupel/tensor"
)

// TestNormTold has answers that another program has worked out.
func TestNormTold(t *testing.T) { // P7.3
	for i, c := range []struct {
		v, g, w []int
		e       api.Errno
	}{
		{[]int{65536, -131072, 196608}, []int{65536, 32768, -65536}, []int{30337, -30337, -91011}, api.OK},
		{[]int{2 * one, -2 * one}, []int{one, one}, []int{one, -one}, api.OK},
		{[]int{1000000, 1}, []int{1000000000, low}, []int{1414215088, 0}, api.OK},
		{[]int{-1, 1}, []int{98304, 32768}, []int{-384, 128}, api.OK},
		// Small ones, of which 1 and the mean is 1, and the root 256.
		{[]int{1, 2, 3}, row(3, one), []int{256, 512, 768}, api.OK}, {[]int{-3}, []int{one}, []int{-768}, api.OK}, {[]int{255}, []int{one}, []int{65280}, api.OK},
		{[]int{256, -256}, row(2, one), []int{46345, -46346}, api.OK}, {[]int{3, -4}, []int{high, low}, []int{25165824, 33554432}, api.OK},
		// Noughts.
		{[]int{0}, []int{one}, []int{0}, api.OK}, {[]int{0, 0, 0}, []int{high, low, 0}, []int{0, 0, 0}, api.OK}, {row(64, 0), row(64, high), row(64, 0), api.OK}, {[]int{one, 2 * one}, []int{0, 0}, []int{0, 0}, api.OK},
		// Just numbers, and just none.
		{[]int{0, one}, []int{0, 1518514995}, []int{0, high - 1}, api.OK}, {[]int{0, one}, []int{0, 1518514996}, nil, api.ErrOver}, {[]int{-one, 0}, []int{1518498612, 0}, []int{low, 0}, api.OK}, {[]int{-one, 0}, []int{1518498613, 0}, nil, api.ErrOver}, {[]int{0, one}, []int{0, high}, nil, api.ErrOver},
		{[]int{11863283}, []int{high}, []int{high}, api.OK}, {[]int{-11863283}, []int{high}, []int{-high}, api.OK}, {[]int{11863283}, []int{low}, []int{low}, api.OK}, {[]int{-11863283}, []int{low}, nil, api.ErrOver},
	} {
		w, e := tensor.Norm(c.v, c.g)
		hold(t, strconv.Itoa(i), w, e, c.w, c.e)
	}
}

// TestNormMean has numbers of which 1 and the mean is just a number, and just none.
func TestNormMean(t *testing.T) { // P7.3
	for i, c := range []struct {
		v []int
		e api.Errno
	}{
		{[]int{11863283}, api.OK}, {[]int{11863284}, api.ErrOver}, {[]int{-11863283}, api.OK}, {[]int{-11863284}, api.ErrOver},
		{[]int{16777215, 5770}, api.OK}, {[]int{-5776, 16777215}, api.OK}, {[]int{16777215, -5781}, api.OK}, {[]int{16777215, 5782}, api.ErrOver},
		{joined(row(62, 11863283), []int{16777224, 4885}), api.OK}, {joined([]int{-16777224, 5290}, row(62, -11863283)), api.OK}, {joined(row(62, 11863283), []int{16777224, 5297}), api.ErrOver},
		{row(64, 11863283), api.OK}, {row(64, 11863284), api.ErrOver},
		// A square may be no number where the mean is one.
		{[]int{12000000, 0}, api.OK}, {with(row(64, 0), 63, 94906265), api.OK}, {with(row(64, 0), 63, 94906266), api.ErrOver},
		{[]int{high}, api.ErrOver}, {[]int{low}, api.ErrOver}, {row(64, high), api.ErrOver}, {row(64, low), api.ErrOver}, {with(row(64, 0), 5, low), api.ErrOver},
	} {
		g := row(len(c.v), one)
		w, e := tensor.Norm(c.v, g)
		want, wantE := wantNorm(c.v, g)
		hold(t, strconv.Itoa(i), w, e, want, wantE)
		if e != c.e {
			t.Errorf("%d: %d", i, int(e))
		}
	}
}

func TestNormWrong(t *testing.T) { // P7.3, R1
	for i, c := range []struct {
		v, g []int
		e    api.Errno
	}{
		{nil, nil, api.ErrSize}, {[]int{}, nil, api.ErrSize}, {[]int{1}, nil, api.ErrSize}, {nil, []int{1}, api.ErrSize}, {[]int{1, 2}, []int{1}, api.ErrSize}, {[]int{1}, []int{1, 2}, api.ErrSize},
		{row(65, 0), row(65, 0), api.ErrSize}, {row(512, 0), row(512, 0), api.ErrSize}, {row(513, 0), row(513, 0), api.ErrSize}, {row(64, 0), row(65, 0), api.ErrSize}, {row(65, 0), row(64, 0), api.ErrSize},
		// A size is told ahead of a number, and that ahead of the mean, and of what comes of it.
		{[]int{high + 1}, []int{1, 2}, api.ErrSize}, {row(65, high+1), row(65, low-1), api.ErrSize}, {row(65, high), row(65, high), api.ErrSize},
		{[]int{high}, []int{high + 1}, api.ErrRange}, {[]int{high, low - 1}, []int{0, 0}, api.ErrRange}, {[]int{one, 0, 0}, []int{high, 0, high + 1}, api.ErrRange},
	} {
		w, e := tensor.Norm(c.v, c.g)
		hold(t, strconv.Itoa(i), w, e, nil, c.e)
	}
	for _, n := range noNumbers() {
		for _, i := range []int{0, 63} {
			w, e := tensor.Norm(with(row(64, 0), i, n), row(64, 0))
			hold(t, strconv.Itoa(n), w, e, nil, api.ErrRange)
			w, e = tensor.Norm(row(64, 0), with(row(64, 0), i, n))
			hold(t, strconv.Itoa(n), w, e, nil, api.ErrRange)
		}
	}
}

// TestSoftmaxTold has answers that another program has worked out.
func TestSoftmaxTold(t *testing.T) { // P7.3
	for i, c := range [][2][]int{
		{{0, -65536}, {47910, 17625}}, {{-65536, 0}, {17625, 47910}}, {{1, 2, 3}, {21844, 21845, 21845}}, {{-5, -4, -3, -2}, {16383, 16383, 16384, 16384}},
		{{65536, 131072, 196608}, {5900, 16038, 43597}}, {{100000, -100000, 5, 5}, {44215, 2090, 9614, 9614}},
		{{0, 10000, 20000, 30000, 40000, 50000, 60000}, {5656, 6589, 7675, 8940, 10414, 12130, 14130}},
		// One, and the same ones.
		{{0}, {65536}}, {{low}, {65536}}, {{high}, {65536}}, {{7, 7}, {32768, 32768}}, {{0, 0, 0}, {21845, 21845, 21845}}, {row(3, low), row(3, 21845)}, {row(5, high), row(5, 13107)},
		{row(64, -9), row(64, 1024)}, {row(65, -9), row(65, 1008)}, {row(511, 77), row(511, 128)}, {row(512, 77), row(512, 128)},
		// Far apart.
		{{low, high}, {0, 65536}}, {{high, low, high}, {32768, 0, 32768}}, {{0, -1048575}, {65536, 0}}, {{0, -1048576}, {65536, 0}}, {{0, -1048577}, {65536, 0}},
		{{0, -720000}, {65534, 1}}, {{0, -600000}, {65529, 6}}, {{high, high - 600000}, {65529, 6}}, {{low + 600000, low}, {65529, 6}}, {with(row(512, low), 300, high), with(row(512, 0), 300, 65536)},
	} {
		w, e := tensor.Softmax(c[0])
		hold(t, strconv.Itoa(i), w, e, c[1], api.OK)
	}
}

func TestSoftmaxWrong(t *testing.T) { // P7.3, R1
	for _, v := range [][]int{nil, {}, row(513, 0), row(513, high+1), row(1000, low)} {
		w, e := tensor.Softmax(v)
		hold(t, strconv.Itoa(len(v)), w, e, nil, api.ErrSize)
	}
	for _, n := range noNumbers() {
		for _, v := range [][]int{{n}, {0, n}, {n, high}, with(row(512, low), 511, n)} {
			w, e := tensor.Softmax(v)
			hold(t, strconv.Itoa(n), w, e, nil, api.ErrRange)
		}
	}
}

// TestSoftmaxTogether holds shares to be all but one, together.
func TestSoftmaxTogether(t *testing.T) { // P7.5
	c := newChance(71)
	for range 3000 {
		v := c.vector(max(1, c.size(511)), 12+c.IntN(20))
		shares, e := tensor.Softmax(v)
		if wantCheck(v) != api.OK {
			continue
		}
		sum := 0
		for i, n := range shares {
			if n < 0 {
				t.Fatalf("%d: a share of %d", v[i], n)
			}
			sum += n
		}
		if e != api.OK || len(shares) != len(v) || sum > 65536 || sum <= 65536-len(v) {
			t.Fatalf("%d: %d together, %d", v, sum, int(e))
		}
	}
}

func TestMixTold(t *testing.T) { // P7.3
	for i, c := range []struct {
		shares []int
		l      [][]int
		w      []int
		e      api.Errno
	}{
		{[]int{one / 2, one / 4}, [][]int{{4, 8}, {4, 16}}, []int{3, 8}, api.OK}, {[]int{one, one}, [][]int{{1, 2, 3}, {10, 20, 30}}, []int{11, 22, 33}, api.OK},
		// Shares of 0, and of one.
		{[]int{0}, [][]int{{high, low, 7}}, []int{0, 0, 0}, api.OK}, {[]int{one}, [][]int{{high, low, 7}}, []int{high, low, 7}, api.OK}, {[]int{0, one, 0}, [][]int{{high}, {5}, {low}}, []int{5}, api.OK},
		{row(64, 0), vectors(64, 512, high), row(512, 0), api.OK}, {row(64, one), vectors(64, 512, 3), row(512, 192), api.OK}, {row(64, 1024), vectors(64, 512, high), row(512, high), api.OK}, {row(64, 1024), vectors(64, 1, low), []int{low}, api.OK},
		// On a half, and beside it; all together are rounded, not each for itself.
		{[]int{32768}, [][]int{{1, -1, 3, -3, 5, -5}}, []int{1, 0, 2, -1, 3, -2}, api.OK}, {[]int{32767}, [][]int{{1, -1}}, []int{0, 0}, api.OK}, {[]int{32769}, [][]int{{1, -1}}, []int{1, -1}, api.OK},
		{[]int{16384, 16384}, [][]int{{1, -1}, {1, -1}}, []int{1, 0}, api.OK}, {[]int{32768, 32768}, [][]int{{1, -1}, {1, -1}}, []int{1, -1}, api.OK}, {row(64, 512), vectors(64, 2, 1), []int{1, 1}, api.OK}, {row(64, 512), vectors(64, 2, -1), []int{0, 0}, api.OK},
		// Just numbers, and just none.
		{[]int{one, 1}, [][]int{{high, low}, {32767, -32768}}, []int{high, low}, api.OK}, {[]int{one, 1}, [][]int{{0, high}, {0, 32768}}, nil, api.ErrOver}, {[]int{one, 1}, [][]int{{low, 0}, {-32769, 0}}, nil, api.ErrOver},
		{[]int{one, one}, [][]int{{high}, {1}}, nil, api.ErrOver}, {[]int{one, one, one}, [][]int{{high}, {high}, {low}}, []int{high - 1}, api.OK}, {[]int{one, one, one}, [][]int{{high}, {high}, {-high}}, []int{high}, api.OK},
		{row(64, one), vectors(64, 1, high), nil, api.ErrOver}, {row(64, one), vectors(64, 1, low), nil, api.ErrOver}, {row(64, one), vectors(64, 1, -33554432), []int{low}, api.OK}, {row(64, one), vectors(64, 1, 33554431), []int{2147483584}, api.OK}, {row(64, one), vectors(64, 1, 33554432), nil, api.ErrOver},
	} {
		w, e := tensor.Mix(c.shares, c.l...)
		hold(t, strconv.Itoa(i), w, e, c.w, c.e)
	}
}

// vectors is so many vectors of so many of a number.
func vectors(many, size, n int) [][]int {
	var l [][]int
	for range many {
		l = append(l, row(size, n))
	}
	return l
}

func TestMixWrong(t *testing.T) { // P7.3, R1
	for i, c := range []struct {
		shares []int
		l      [][]int
		e      api.Errno
	}{
		{nil, nil, api.ErrSize}, {[]int{}, [][]int{}, api.ErrSize}, {[]int{1}, nil, api.ErrSize}, {nil, [][]int{{1}}, api.ErrSize}, {[]int{1, 2}, [][]int{{1}}, api.ErrSize}, {[]int{1}, [][]int{{1}, {2}}, api.ErrSize},
		{[]int{1}, [][]int{nil}, api.ErrSize}, {[]int{1, 1}, [][]int{{}, {}}, api.ErrSize}, {[]int{1, 1}, [][]int{{1}, {}}, api.ErrSize}, {[]int{1, 1}, [][]int{nil, {1}}, api.ErrSize}, {[]int{1, 1, 1}, [][]int{{1}, {1}, {1, 2}}, api.ErrSize}, {[]int{1, 1}, [][]int{{1, 2}, {1}}, api.ErrSize},
		{row(65, 0), vectors(65, 1, 0), api.ErrSize}, {row(64, 0), vectors(65, 1, 0), api.ErrSize}, {row(65, 0), vectors(64, 1, 0), api.ErrSize}, {row(512, 0), vectors(512, 1, 0), api.ErrSize}, {[]int{0}, vectors(1, 513, 0), api.ErrSize}, {row(64, 0), vectors(64, 513, 0), api.ErrSize},
		// A size is told ahead of a number or a share, and these ahead of what comes of them.
		{[]int{-1, 0}, [][]int{{high + 1}}, api.ErrSize}, {[]int{-1}, nil, api.ErrSize}, {[]int{-1}, vectors(1, 513, high+1), api.ErrSize}, {[]int{one + 1, 0}, [][]int{{high + 1}, {1, 2}}, api.ErrSize}, {row(65, -1), vectors(65, 1, low-1), api.ErrSize},
		{[]int{one, one, one + 1}, [][]int{{high}, {high}, {0}}, api.ErrRange}, {[]int{one, one}, [][]int{{high, high + 1}, {high, 0}}, api.ErrRange}, {[]int{-1}, [][]int{{high + 1}}, api.ErrRange},
	} {
		w, e := tensor.Mix(c.shares, c.l...)
		hold(t, strconv.Itoa(i), w, e, nil, c.e)
	}
	for _, n := range append(noNumbers(), -1, -2, one+1, one+2, low, high) {
		for _, i := range []int{0, 31, 63} {
			w, e := tensor.Mix(with(row(64, 1), i, n), vectors(64, 2, 0)...)
			hold(t, strconv.Itoa(n), w, e, nil, api.ErrRange)
		}
	}
	for _, n := range noNumbers() {
		for _, i := range []int{0, 31, 63} {
			l := vectors(64, 2, 0)
			l[i][i%2] = n
			w, e := tensor.Mix(row(64, 0), l...)
			hold(t, strconv.Itoa(n), w, e, nil, api.ErrRange)
		}
	}
}
