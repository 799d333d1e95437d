package tensor_test

import (
	"math"
	"slices"
	"strconv"
	"testing"

	"cupel/api"
	"cupel/tensor"
)

const one = 65536

func matrix(rows, cols int, l ...int) tensor.Matrix {
	return tensor.Matrix{Rows: rows, Cols: cols, L: l}
}

// full is a matrix whose weights are all other ones, up and down.
func full(rows, cols int) tensor.Matrix {
	l := make([]int, rows*cols)
	for i := range l {
		l[i] = i*511 - weight
	}
	return matrix(rows, cols, l...)
}

// upDown is numbers that are all other ones, up and down.
func upDown(many int) []int {
	l := make([]int, many)
	for i := range l {
		l[i] = (i + 1) * 4194301
		if i%2 == 1 {
			l[i] = -l[i]
		}
	}
	return l
}

// shapes is the least and the greatest sizes of matrices, and some between.
func shapes() [][2]int {
	return [][2]int{{1, 1}, {1, 2}, {2, 1}, {3, 5}, {1, 64}, {512, 1}, {512, 64}, {511, 63}, {7, 64}, {512, 2}}
}

func TestExamples(t *testing.T) {
	n, e := tensor.Dot([]int{65536, 32768}, []int{2, 4})
	holdOne(t, "Dot", n, e, 4, api.OK)
	l, e := tensor.Softmax([]int{7, 7})
	hold(t, "Softmax", l, e, []int{32768, 32768}, api.OK)
	l, e = tensor.Top([]int{3, 9, 9, 1}, 3)
	hold(t, "Top", l, e, []int{1, 2, 0}, api.OK)
}

func TestMatrixCheck(t *testing.T) { // P7.1
	for _, s := range shapes() {
		if e := full(s[0], s[1]).Check(); e != api.OK {
			t.Errorf("%d by %d: %d", s[0], s[1], int(e))
		}
	}
	for _, n := range []int{-weight, -weight + 1, -1, 0, 1, weight - 1, weight} {
		if e := matrix(1, 3, 0, n, 0).Check(); e != api.OK {
			t.Errorf("%d: %d", n, int(e))
		}
	}
}

// holdMatrix holds all that is asked of a matrix to an error.
func holdMatrix(t *testing.T, m tensor.Matrix, want api.Errno) {
	t.Helper()
	if e := m.Check(); e != want {
		t.Errorf("%d by %d, of %d numbers: %d, not %d", m.Rows, m.Cols, len(m.L), int(e), int(want))
	}
	// The matrix's error comes ahead of what else is wrong.
	for _, i := range []int{0, -1, m.Rows, math.MaxInt, math.MinInt} {
		l, e := m.Row(i)
		hold(t, "Row", l, e, nil, want)
	}
	for _, v := range [][]int{nil, {0}, {high + 1}, make([]int, max(m.Cols, 0)%100), make([]int, 65), make([]int, 513)} {
		l, e := tensor.Mul(m, v)
		hold(t, "Mul", l, e, nil, want)
	}
}

func TestMatrixOfNoSize(t *testing.T) { // P7.1, P7.2, R1
	for _, m := range []tensor.Matrix{
		{}, {Rows: 1}, {Cols: 1}, {L: []int{1}}, {L: []int{high}}, {Rows: 1, Cols: 1}, {Rows: 1, Cols: 0, L: []int{}}, {Rows: 0, Cols: 1, L: []int{}},
		matrix(1, 1, 1, 2), matrix(2, 2, 1, 2, 3), matrix(2, 2, 1, 2, 3, 4, 5), matrix(2, 1, 1), matrix(1, 2, 1), matrix(-1, -1, 1), matrix(-2, -2, 1, 2, 3, 4), matrix(-1, 1), matrix(1, -1),
		matrix(513, 1, make([]int, 513)...), matrix(1, 65, make([]int, 65)...), matrix(65, 65, make([]int, 65*65)...), matrix(513, 64, make([]int, 513*64)...), matrix(64, 512, make([]int, 64*512)...),
		matrix(512, 64, make([]int, 512*64-1)...), matrix(512, 64, make([]int, 512*64+1)...), matrix(512, 65, make([]int, 512*65)...),
		// Their product is how many there are, but in a lower part of an int alone.
		matrix(1<<32, 1<<32), matrix(math.MinInt, 2), matrix(2, math.MinInt), matrix(1<<62, 4), matrix(4, 1<<62),
	} {
		holdMatrix(t, m, api.ErrSize)
	}
	for _, n := range noCounts() {
		holdMatrix(t, matrix(n, 1, 1), api.ErrSize)
		holdMatrix(t, matrix(1, n, 1), api.ErrSize)
		holdMatrix(t, matrix(n, n, 1), api.ErrSize)
		holdMatrix(t, matrix(n, n), api.ErrSize)
	}
	// A size is told ahead of what is no weight.
	holdMatrix(t, matrix(2, 2, high, low, high), api.ErrSize)
	holdMatrix(t, matrix(513, 1, row(513, high)...), api.ErrSize)
}

func TestMatrixOfNoWeights(t *testing.T) { // P7.1, P7.2, R1
	for _, n := range noWeights() {
		holdMatrix(t, matrix(1, 1, n), api.ErrRange)
		holdMatrix(t, matrix(2, 3, 1, 2, 3, 4, 5, n), api.ErrRange)
		holdMatrix(t, matrix(2, 3, n, 2, 3, 4, 5, 6), api.ErrRange)
		holdMatrix(t, matrix(512, 64, with(make([]int, 512*64), 512*64-1, n)...), api.ErrRange)
	}
}

func TestRow(t *testing.T) { // P7.1
	m := matrix(3, 2, 1, 2, 3, 4, 5, 6)
	for i, want := range [][]int{{1, 2}, {3, 4}, {5, 6}} {
		l, e := m.Row(i)
		hold(t, strconv.Itoa(i), l, e, want, api.OK)
	}
	for _, s := range shapes() {
		m := full(s[0], s[1])
		for i := range s[0] {
			l, e := m.Row(i)
			hold(t, strconv.Itoa(i), l, e, m.L[i*s[1]:(i+1)*s[1]], api.OK)
		}
		for _, i := range append(noCounts(), s[0], s[0]+1, s[0]*s[1]+1) {
			l, e := m.Row(i)
			hold(t, strconv.Itoa(i), l, e, nil, api.ErrRange)
		}
	}
}

func TestCheck(t *testing.T) { // P7.1
	for _, many := range []int{1, 2, 63, 64, 65, 511, 512} {
		for _, n := range []int{0, low, high, low + 1, high - 1, -1, one} {
			if e := tensor.Check(row(many, n)); e != api.OK {
				t.Errorf("%d times %d: %d", many, n, int(e))
			}
		}
		for _, n := range noNumbers() {
			for _, i := range []int{0, many / 2, many - 1} {
				if e := tensor.Check(with(row(many, 5), i, n)); e != api.ErrRange {
					t.Errorf("%d at %d of %d: %d", n, i, many, int(e))
				}
			}
		}
	}
	for _, many := range []int{0, 513, 514, 1024, 65536} {
		for _, n := range []int{0, high + 1} {
			if e := tensor.Check(row(many, n)); e != api.ErrSize {
				t.Errorf("%d times %d: %d", many, n, int(e))
			}
		}
	}
	if e := tensor.Check(nil); e != api.ErrSize {
		t.Error(int(e))
	}
}

func TestDotTold(t *testing.T) { // P7.2
	for i, c := range []struct {
		row, v []int
		n      int
		e      api.Errno
	}{
		{[]int{0}, []int{0}, 0, api.OK}, {[]int{one}, []int{7}, 7, api.OK}, {[]int{-one}, []int{7}, -7, api.OK},
		{[]int{one, one}, []int{7, -7}, 0, api.OK}, {[]int{2 * one, 3 * one}, []int{5, 7}, 31, api.OK},
		// On a half, and beside it.
		{[]int{1}, []int{32768}, 1, api.OK}, {[]int{1}, []int{32767}, 0, api.OK}, {[]int{1}, []int{32769}, 1, api.OK},
		{[]int{-1}, []int{32768}, 0, api.OK}, {[]int{-1}, []int{32767}, 0, api.OK}, {[]int{-1}, []int{32769}, -1, api.OK},
		{[]int{3}, []int{32768}, 2, api.OK}, {[]int{-3}, []int{32768}, -1, api.OK}, {[]int{5}, []int{-32768}, -2, api.OK},
		// All together are rounded, not each for itself.
		{[]int{1, 1}, []int{16384, 16384}, 1, api.OK}, {[]int{1, 1}, []int{32768, 32768}, 1, api.OK}, {[]int{1, 1, 1, 1}, row(4, 16384), 1, api.OK},
		{[]int{-1, -1}, []int{16384, 16384}, 0, api.OK}, {[]int{-1, -1}, []int{16384, 16385}, -1, api.OK}, {[]int{-1, -1}, []int{32768, 32768}, -1, api.OK},
		{row(64, 1), row(64, 512), 1, api.OK}, {row(64, 1), with(row(64, 512), 63, 511), 0, api.OK}, {row(64, -1), row(64, 512), 0, api.OK}, {row(64, -1), with(row(64, 512), 0, 513), -1, api.OK},
		// Just numbers, and just none.
		{[]int{one}, []int{high}, high, api.OK}, {[]int{one, 1}, []int{high, 32767}, high, api.OK}, {[]int{one, 1}, []int{high, 32768}, 0, api.ErrOver},
		{[]int{one}, []int{low}, low, api.OK}, {[]int{one, 1}, []int{low, -32768}, low, api.OK}, {[]int{one, 1}, []int{low, -32769}, 0, api.ErrOver},
		{[]int{-one}, []int{high}, -high, api.OK}, {[]int{-one}, []int{low}, 0, api.ErrOver}, {[]int{-one, 1}, []int{low, -32769}, high, api.OK},
		{[]int{one, 1}, []int{high, one}, 0, api.ErrOver}, {[]int{one, -1}, []int{low, one}, 0, api.ErrOver},
		// What is between is no number, what comes of all is one.
		{[]int{one, one, -one}, []int{high, high, high}, high, api.OK}, {[]int{weight, -weight}, []int{high, high}, 0, api.OK}, {[]int{weight, weight, one}, []int{high, -high, low}, low, api.OK},
		{joined(row(32, weight), row(32, -weight)), row(64, low), 0, api.OK}, {joined(row(32, -weight), row(31, weight), []int{0}), row(64, 65536), -weight, api.OK},
		{row(64, weight), row(64, high), 0, api.ErrOver}, {row(64, weight), row(64, low), 0, api.ErrOver}, {row(64, -weight), row(64, low), 0, api.ErrOver}, {row(64, -weight), row(64, high), 0, api.ErrOver},
		{[]int{weight}, []int{8388607}, 2147483392, api.OK}, {[]int{weight}, []int{8388608}, 0, api.ErrOver}, {[]int{-weight}, []int{8388608}, low, api.OK}, {[]int{-weight}, []int{8388609}, 0, api.ErrOver},
		{row(64, weight), row(64, 131071), 2147467264, api.OK}, {row(64, weight), row(64, 131072), 0, api.ErrOver}, {row(64, weight), row(64, -131072), low, api.OK},
		// Wrong ones.
		{nil, nil, 0, api.ErrSize}, {[]int{}, []int{}, 0, api.ErrSize}, {[]int{1}, nil, 0, api.ErrSize}, {nil, []int{1}, 0, api.ErrSize}, {[]int{1, 2}, []int{1}, 0, api.ErrSize}, {[]int{1}, []int{1, 2}, 0, api.ErrSize},
		{row(65, 0), row(65, 0), 0, api.ErrSize}, {row(512, 0), row(512, 0), 0, api.ErrSize}, {row(64, 0), row(65, 0), 0, api.ErrSize}, {row(65, 0), row(64, 0), 0, api.ErrSize},
		// A size is told ahead of a number, and that ahead of what comes of it.
		{[]int{high, 0}, []int{1}, 0, api.ErrSize}, {[]int{1}, []int{high + 1, 0}, 0, api.ErrSize}, {row(65, high), row(65, low-1), 0, api.ErrSize},
		{[]int{weight, weight + 1}, []int{high, 0}, 0, api.ErrRange}, {[]int{weight, 0}, []int{high, high + 1}, 0, api.ErrRange},
	} {
		n, e := tensor.Dot(c.row, c.v)
		holdOne(t, strconv.Itoa(i), n, e, c.n, c.e)
	}
}

func TestDotRange(t *testing.T) { // P7.2, R1
	for _, many := range []int{1, 2, 64} {
		for _, i := range []int{0, many - 1} {
			for _, n := range noWeights() {
				x, e := tensor.Dot(with(row(many, 1), i, n), row(many, 0))
				holdOne(t, strconv.Itoa(n), x, e, 0, api.ErrRange)
			}
			for _, n := range noNumbers() {
				x, e := tensor.Dot(row(many, 0), with(row(many, 1), i, n))
				holdOne(t, strconv.Itoa(n), x, e, 0, api.ErrRange)
			}
			// What is no weight may be a number.
			x, e := tensor.Dot(row(many, 0), with(row(many, 1), i, low))
			holdOne(t, "least", x, e, 0, api.OK)
		}
	}
}

func TestDotHalf(t *testing.T) { // P7.2
	for i := -1000; i < 1000; i++ {
		odd := 2*i + 1 // half of it is i and a half, which goes up to i + 1
		for _, c := range [][2][]int{{{32768}, {odd}}, {{odd}, {32768}}, {{-32768}, {-odd}}, {{16384, 16384}, {odd, odd}}, {row(64, 512), row(64, odd)}, {{odd, 1, -1}, {32768, 77, 77}}} {
			n, e := tensor.Dot(c[0], c[1])
			holdOne(t, strconv.Itoa(odd), n, e, i+1, api.OK)
		}
	}
}

func TestMulTold(t *testing.T) { // P7.2
	for i, c := range []struct {
		m    tensor.Matrix
		v, w []int
		e    api.Errno
	}{
		{matrix(2, 2, one, 0, one/2, -one), []int{6, 4}, []int{6, -1}, api.OK},
		{matrix(3, 2, one, 2*one, 3*one, 4*one, 5*one, 6*one), []int{1, 10}, []int{21, 43, 65}, api.OK},
		{matrix(2, 3, one, 2*one, 3*one, 4*one, 5*one, 6*one), []int{1, 10, 100}, []int{321, 654}, api.OK},
		{matrix(2, 1, 1, -1), []int{32768}, []int{1, 0}, api.OK},
		{matrix(2, 1, one, -one), []int{high}, []int{high, -high}, api.OK},
		// The first error, of any row.
		{matrix(2, 1, one, -one), []int{low}, nil, api.ErrOver}, {matrix(3, 1, 0, 0, 2*one), []int{1 << 30}, nil, api.ErrOver}, {matrix(3, 1, 2*one, 0, 0), []int{1 << 30}, nil, api.ErrOver},
		{matrix(1, 1, 1), nil, nil, api.ErrSize}, {matrix(1, 1, 1), []int{}, nil, api.ErrSize}, {matrix(1, 1, 1), []int{1, 2}, nil, api.ErrSize}, {matrix(1, 2, 1, 2), []int{1}, nil, api.ErrSize}, {matrix(2, 3, row(6, 1)...), []int{1, 2}, nil, api.ErrSize},
		{matrix(2, 2, row(4, 0)...), []int{0, high + 1}, nil, api.ErrRange}, {matrix(2, 2, row(4, 0)...), []int{math.MinInt, 0}, nil, api.ErrRange}, {matrix(1, 1, 0), []int{math.MaxInt}, nil, api.ErrRange},
		// Of two, the matrix's error first, then the vector's size, then its numbers, then what comes of them.
		{matrix(1, 1, weight+1), []int{1, 2}, nil, api.ErrRange}, {matrix(1, 2, weight+1), []int{1, high + 1}, nil, api.ErrSize}, {matrix(1, 1, 1), []int{1, high + 1}, nil, api.ErrSize},
		{matrix(2, 2, row(4, weight)...), []int{high, high + 1}, nil, api.ErrRange},
	} {
		w, e := tensor.Mul(c.m, c.v)
		hold(t, strconv.Itoa(i), w, e, c.w, c.e)
	}
}

func TestMulShapes(t *testing.T) { // P7.2, P7.5
	for _, s := range shapes() {
		m := full(s[0], s[1])
		for _, v := range [][]int{make([]int, s[1]), row(s[1], 8000000/s[1]), row(s[1], -8000000/s[1]), upDown(s[1]), row(s[1], high), row(s[1], low)} {
			w, e := tensor.Mul(m, v)
			want, wantE := wantMul(m, v)
			hold(t, "Mul", w, e, want, wantE)
		}
		for _, many := range []int{0, s[1] - 1, s[1] + 1, 65, 512, 513} {
			if many != s[1] {
				w, e := tensor.Mul(m, make([]int, many))
				hold(t, "Mul", w, e, nil, api.ErrSize)
			}
		}
	}
}

// TestMulRows holds that a row's number is the same whatever rows are beside it.
func TestMulRows(t *testing.T) { // P7.5
	m, v := full(512, 64), upDown(64)
	for i, n := range v {
		v[i] = n >> 8
	}
	all, e := tensor.Mul(m, v)
	if len(all) != 512 || e != api.OK {
		t.Fatal(len(all), int(e))
	}
	for i, n := range all {
		l, _ := m.Row(i)
		alone, e := tensor.Dot(l, v)
		holdOne(t, "Dot", alone, e, n, api.OK)
		single, e := tensor.Mul(matrix(1, 64, l...), v)
		hold(t, "Mul", single, e, []int{n}, api.OK)
	}
	slices.Sort(all)
	if len(slices.Compact(all)) < 500 {
		t.Error("too many are the same to tell")
	}
}

func TestAdd(t *testing.T) { // P7.2
	for i, c := range []struct {
		a, b, w []int
		e       api.Errno
	}{
		{[]int{1, 2}, []int{3, -4}, []int{4, -2}, api.OK}, {[]int{0}, []int{0}, []int{0}, api.OK}, {[]int{1, 2, 3}, []int{10, 20, 30}, []int{11, 22, 33}, api.OK},
		{[]int{low, high}, []int{high, low}, []int{-1, -1}, api.OK}, {[]int{high, low}, []int{0, 0}, []int{high, low}, api.OK},
		{[]int{high - 1, low + 1}, []int{1, -1}, []int{high, low}, api.OK}, {[]int{0, high}, []int{0, 1}, nil, api.ErrOver}, {[]int{low, 0}, []int{-1, 0}, nil, api.ErrOver}, {[]int{1 << 30}, []int{1 << 30}, nil, api.ErrOver},
		{row(512, high), row(512, low), row(512, -1), api.OK}, {row(64, 7), row(64, 8), row(64, 15), api.OK}, {row(65, 7), row(65, 8), row(65, 15), api.OK}, {row(512, 1), with(row(512, 1), 511, high), nil, api.ErrOver},
		{nil, nil, nil, api.ErrSize}, {[]int{}, nil, nil, api.ErrSize}, {[]int{1}, nil, nil, api.ErrSize}, {nil, []int{1}, nil, api.ErrSize}, {[]int{1}, []int{1, 2}, nil, api.ErrSize}, {[]int{1, 2}, []int{1}, nil, api.ErrSize},
		{row(513, 0), row(513, 0), nil, api.ErrSize}, {row(512, 0), row(513, 0), nil, api.ErrSize}, {row(513, 0), row(512, 0), nil, api.ErrSize},
		// A size is told ahead of a number, and that ahead of what comes of it.
		{[]int{high + 1}, []int{1, 2}, nil, api.ErrSize}, {row(513, high+1), row(513, low-1), nil, api.ErrSize},
		{[]int{high, high + 1}, []int{1, 0}, nil, api.ErrRange}, {[]int{high, 0}, []int{1, low - 1}, nil, api.ErrRange}, {[]int{high + 1}, []int{-1}, nil, api.ErrRange}, {[]int{1}, []int{low - 1}, nil, api.ErrRange},
	} {
		w, e := tensor.Add(c.a, c.b)
		hold(t, strconv.Itoa(i), w, e, c.w, c.e)
		w, e = tensor.Add(c.b, c.a)
		hold(t, strconv.Itoa(i)+" back", w, e, c.w, c.e)
	}
	for _, n := range noNumbers() {
		for _, i := range []int{0, 511} {
			w, e := tensor.Add(with(row(512, 0), i, n), row(512, 0))
			hold(t, strconv.Itoa(n), w, e, nil, api.ErrRange)
			w, e = tensor.Add(row(512, 0), with(row(512, 0), i, n))
			hold(t, strconv.Itoa(n), w, e, nil, api.ErrRange)
		}
	}
}
