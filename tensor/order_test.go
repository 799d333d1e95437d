package tensor_test

import (
	"slices"
	"strconv"
	"testing"

	"cupel/api"
	"cupel/tensor"
)

// rising is the numbers from 0 on.
func rising(many int) []int {
	l := make([]int, many)
	for i := range l {
		l[i] = i
	}
	return l
}

// falling is the same, the greatest one first.
func falling(many int) []int {
	l := rising(many)
	slices.Reverse(l)
	return l
}

func TestMostTold(t *testing.T) { // P7.4
	for i, c := range []struct {
		v []int
		n int
	}{
		{[]int{5, 7, 7}, 1}, {[]int{5}, 0}, {[]int{low}, 0}, {[]int{high}, 0}, {[]int{low, low}, 0}, {[]int{low, low + 1}, 1}, {[]int{-5, -3, -4}, 1}, {[]int{-1, 0}, 1}, {[]int{low, high, high}, 1}, {[]int{high, low, high}, 0},
		{row(512, low), 0}, {row(512, high), 0}, {row(65, 3), 0}, {with(row(512, low), 511, low+1), 511}, {with(row(512, 0), 300, 1), 300}, {rising(512), 511}, {falling(512), 0},
	} {
		n, e := tensor.Most(c.v)
		holdOne(t, strconv.Itoa(i), n, e, c.n, api.OK)
	}
}

func TestTopTold(t *testing.T) { // P7.4
	for i, c := range []struct {
		v []int
		k int
		l []int
	}{
		{[]int{3, 9, 9, 1}, 1, []int{1}}, {[]int{3, 9, 9, 1}, 2, []int{1, 2}}, {[]int{3, 9, 9, 1}, 4, []int{1, 2, 0, 3}}, {[]int{5, high, low, 5}, 4, []int{1, 0, 3, 2}},
		{[]int{-7}, 1, []int{0}}, {[]int{low, high}, 2, []int{1, 0}}, {[]int{high, low}, 2, []int{0, 1}}, {[]int{high, high - 1, low, low + 1}, 4, []int{0, 1, 3, 2}},
		{[]int{1, 2, 1, 2, 1, 2}, 6, []int{1, 3, 5, 0, 2, 4}}, {[]int{1, 2, 1, 2, 1, 2}, 4, []int{1, 3, 5, 0}},
		{row(512, 7), 512, rising(512)}, {row(512, 7), 100, rising(100)}, {row(65, low), 65, rising(65)}, {rising(512), 512, falling(512)}, {falling(512), 512, rising(512)}, {falling(512), 1, []int{0}}, {rising(512), 2, []int{511, 510}},
	} {
		l, e := tensor.Top(c.v, c.k)
		hold(t, strconv.Itoa(i), l, e, c.l, api.OK)
	}
}

func TestMostAndTopWrong(t *testing.T) { // P7.4, R1
	for _, v := range [][]int{nil, {}, row(513, 0), row(513, high+1), row(2000, 1)} {
		n, e := tensor.Most(v)
		holdOne(t, "Most", n, e, 0, api.ErrSize)
		// The vector's error comes ahead of that of k.
		for _, k := range append(noCounts(), 0, 1, 513) {
			l, e := tensor.Top(v, k)
			hold(t, "Top", l, e, nil, api.ErrSize)
		}
	}
	for _, x := range noNumbers() {
		for _, v := range [][]int{{x}, {1, 2, x}, {x, high}, with(row(512, 0), 511, x)} {
			n, e := tensor.Most(v)
			holdOne(t, "Most", n, e, 0, api.ErrRange)
			for _, k := range []int{0, 1, len(v), len(v) + 1} {
				l, e := tensor.Top(v, k)
				hold(t, "Top", l, e, nil, api.ErrRange)
			}
		}
	}
	for _, v := range [][]int{{1}, {4, 3}, row(64, 9), row(512, 9)} {
		for _, k := range append(noCounts(), 0, len(v)+1, len(v)+2, 513, 1<<32, 1<<32+1) {
			l, e := tensor.Top(v, k)
			hold(t, "Top", l, e, nil, api.ErrRange)
		}
	}
}

// TestMostIsFirstOfTop has few numbers, many times each.
func TestMostIsFirstOfTop(t *testing.T) { // P7.4, P7.5
	c := newChance(74)
	for range 2000 {
		v := make([]int, 1+c.IntN(512>>c.IntN(9)))
		for i := range v {
			v[i] = c.IntN(1+c.IntN(20)) - 9
		}
		most, e := tensor.Most(v)
		want, wantE := wantMost(v)
		holdOne(t, "Most", most, e, want, wantE)
		k := 1 + c.IntN(len(v))
		top, e := tensor.Top(v, k)
		wantL, wantE := wantTop(v, k)
		hold(t, "Top", top, e, wantL, wantE)
		if top[0] != most {
			t.Fatalf("%d: most at %d, top %d", v, most, top)
		}
	}
}
