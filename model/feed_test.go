package model_test

import (
	"slices"
	"testing"

	"cupel/api"
	"cupel/model"
	"cupel/tensor"
	"cupel/weights"
)

func matrix(rows, cols int, l ...int) tensor.Matrix {
	return tensor.Matrix{Rows: rows, Cols: cols, L: l}
}

// filled is a matrix of one number.
func filled(rows, cols, n int) tensor.Matrix {
	return matrix(rows, cols, slices.Repeat([]int{n}, rows*cols)...)
}

// TestFeedTold has answers that another program has worked out.
func TestFeedTold(t *testing.T) { // P11.1
	for _, x := range []struct {
		h              []int
		gate, up, down tensor.Matrix
		l              []int
	}{
		{[]int{117586}, matrix(1, 1, 120741), matrix(1, 1, 12471), matrix(1, 1, -3423), []int{-3727}},
		{[]int{22643, 127016}, matrix(1, 2, -111798, -2276), matrix(1, 2, 125891, 9273), matrix(2, 1, -49931, 18732), []int{10503, -3940}},
		{[]int{-30839, -123439}, matrix(3, 2, 117771, -69113, -122593, -64995, 26576, 16959), matrix(3, 2, 45152, 24548, -117118, 112374, 52305, 58216), matrix(2, 3, -61615, -111973, -129586, 1270, 107800, -74659), []int{685055, -701138}},
		{[]int{-95201, -10476, 9020, -86405}, matrix(2, 4, 94199, 93182, 121571, 71026, 118342, 74378, -28067, 24352), matrix(2, 4, 112766, -96441, 28128, -129381, 95850, 19063, 116627, 31955), matrix(4, 2, -56265, -44329, 119753, 129856, 42329, -50580, 92044, -105616), []int{-10596, 32891, -16467, -34536}},
		{[]int{6945, -97945, -7533}, matrix(5, 3, -98086, -117675, 43542, 94023, -95051, 81400, 124094, -105439, -66388, -66922, -16132, -72795, -60490, 22278, 98550), matrix(5, 3, -52571, -35083, -33929, 85949, -46568, -95826, -19326, -108233, -74337, 67737, -93322, 15660, -100894, -69021, 77872), matrix(3, 5, -60643, -125846, 95247, -83133, 33853, 125537, 125608, 54212, 65115, -101843, -58599, 23448, -51848, 21095, -15419), []int{128776, 975758, -363878}},
	} {
		if l, e := model.Feed(x.h, weights.Layer{Gate: x.gate, Up: x.up, Down: x.down}); !slices.Equal(l, x.l) || e != api.OK {
			t.Errorf("Feed %v: %v %d, not %v", x.h, l, int(e), x.l)
		}
	}
}

// right is a layer that feeds vectors of two numbers, by three.
func right() weights.Layer {
	return weights.Layer{Gate: filled(3, 2, one), Up: filled(3, 2, -one), Down: filled(2, 3, 5)}
}

// TestFeedPassesErrorsOn turns one thing or two of what is right.
func TestFeedPassesErrorsOn(t *testing.T) { // P11.1, R1
	const none = maxWeight + 1
	h := []int{one, one}
	for _, x := range []struct {
		what string
		h    []int
		turn func(l *weights.Layer)
		e    api.Errno
	}{
		{"right", h, func(l *weights.Layer) {}, api.OK},
		{"no layer", h, func(l *weights.Layer) { *l = weights.Layer{} }, api.ErrSize},
		{"nothing to feed", nil, func(l *weights.Layer) {}, api.ErrSize},
		{"too few", h[1:], func(l *weights.Layer) {}, api.ErrSize},
		{"too many", []int{1, 2, 3}, func(l *weights.Layer) {}, api.ErrSize},
		{"what is no number", []int{1, 1 << 31}, func(l *weights.Layer) {}, api.ErrRange},
		{"Gate", h, func(l *weights.Layer) { l.Gate.L[5] = none }, api.ErrRange},
		{"Up", h, func(l *weights.Layer) { l.Up.L[5] = none }, api.ErrRange},
		{"Down", h, func(l *weights.Layer) { l.Down.L[5] = none }, api.ErrRange},
		{"Gate's sum", []int{high, high}, func(l *weights.Layer) {}, api.ErrOver},
		{"Up's sum", []int{high, high}, func(l *weights.Layer) { l.Gate = filled(3, 2, 1) }, api.ErrOver},
		{"a product", []int{1 << 30, 1 << 30}, func(l *weights.Layer) { l.Gate, l.Up = filled(3, 2, 1<<15), filled(3, 2, 1<<14) }, api.ErrOver},
		{"Down's sum", []int{1 << 23, 1 << 23}, func(l *weights.Layer) { l.Down = filled(2, 3, -maxWeight) }, api.ErrOver},
		{"Gate ahead of Up", h, func(l *weights.Layer) { l.Gate.Cols, l.Up.L[0] = 3, none }, api.ErrSize},
		{"Gate ahead of Up, the other way round", h, func(l *weights.Layer) { l.Gate.L[0], l.Up.Cols = none, 3 }, api.ErrRange},
		{"Up ahead of Down", h, func(l *weights.Layer) { l.Up.Cols, l.Down.L[0] = 3, none }, api.ErrSize},
		{"Up ahead of Down, the other way round", h, func(l *weights.Layer) { l.Up.L[0], l.Down.Cols = none, 2 }, api.ErrRange},
		{"Up's sum ahead of Down", []int{high, high}, func(l *weights.Layer) { l.Gate, l.Down.Cols = filled(3, 2, 1), 2 }, api.ErrOver},
		{"a product ahead of Down", []int{1 << 30, 1 << 30}, func(l *weights.Layer) {
			l.Gate, l.Up, l.Down.Cols = filled(3, 2, 1<<15), filled(3, 2, 1<<14), 2
		}, api.ErrOver},
		{"Gate's sum ahead of Up", []int{high, high}, func(l *weights.Layer) { l.Up.Rows = 0 }, api.ErrOver},
		{"Down of two", h, func(l *weights.Layer) { l.Down = filled(2, 2, one) }, api.ErrSize},
		{"Down of four", h, func(l *weights.Layer) { l.Down = filled(2, 4, one) }, api.ErrSize},
	} {
		l := right()
		x.turn(&l)
		if fed, e := model.Feed(x.h, l); e != x.e || (len(fed) != 0) != (e == api.OK) {
			t.Errorf("%s: %v %d, not %d", x.what, fed, int(e), int(x.e))
		}
		holdFeed(t, x.h, l)
	}
}

// TestFeedOfOthers: where Gate and Up are not as many rows, there are no two numbers for each.
func TestFeedOfOthers(t *testing.T) { // P11.1, R1
	for rows := 1; rows <= 5; rows++ {
		for cols := 1; cols <= 5; cols++ {
			l := right()
			l.Gate, l.Down = filled(rows, 2, one), filled(4, cols, one)
			want := api.ErrSize
			if rows == 3 && cols == 3 {
				want = api.OK
			}
			if fed, e := model.Feed([]int{1, 2}, l); e != want || (len(fed) == 4) != (want == api.OK) {
				t.Errorf("%d rows, %d columns: %v %d, not %d", rows, cols, fed, int(e), int(want))
			}
		}
	}
	// Products are not begun then.
	l := right()
	l.Gate, l.Up = filled(2, 2, 1<<15), filled(3, 2, 1<<14)
	if fed, e := model.Feed([]int{1 << 30, 1 << 30}, l); len(fed) != 0 || e != api.ErrSize {
		t.Error(fed, int(e))
	}
}

func TestFeedOfAny(t *testing.T) { // P11.1
	c := newChance(6)
	seen := map[api.Errno]int{}
	for range 3000 {
		dim, hidden := 1+c.IntN(6), 1+c.IntN(6)
		bits := 12 + c.IntN(13)
		of := func(rows, cols int) tensor.Matrix {
			m := matrix(rows, cols, numbers(c, rows*cols, bits)...)
			if c.IntN(15) == 0 {
				m.L[c.IntN(len(m.L))] = maxWeight + 1
			}
			if c.IntN(25) == 0 {
				m.Cols++
			}
			return m
		}
		h := numbers(c, dim, 12+c.IntN(20))
		l := weights.Layer{Gate: of(hidden, dim), Up: of(hidden, dim), Down: of(dim, hidden)}
		if c.IntN(25) == 0 {
			h[c.IntN(dim)] = notNumbers()[c.IntN(5)]
		}
		holdFeed(t, h, l)
		_, e := model.Feed(h, l)
		seen[e]++
	}
	for _, e := range []api.Errno{api.OK, api.ErrRange, api.ErrSize, api.ErrOver} {
		if seen[e] < 100 {
			t.Error(seen)
		}
	}
}
