package draw_test

import (
	"math"
	"slices"
	"testing"

	"cupel/api"
	"cupel/tensor"
)

// rare is weights that are together a number of which once in some 2^23 numbers one is passed over.
func rare() []int { return with(row(512, heaviest), 511, heaviest-1048575) }

// TestChooseTold has answers that another program has worked out.
func TestChooseTold(t *testing.T) { // P8.2
	b := bothOf(t, few, 100)
	for _, c := range []struct {
		weights, places []int
	}{
		{[]int{1}, []int{0, 0, 0}}, {[]int{heaviest}, []int{0, 0, 0}}, {[]int{1, 1}, []int{1, 0, 1}}, {[]int{1, 0, 2, 1}, []int{2, 0, 2}}, {[]int{0, 0, 5}, []int{2, 2, 2}}, {[]int{5, 0, 0}, []int{0, 0, 0}}, {[]int{0, 3, 0, 0, 4, 0}, []int{1, 1, 1}},
		{[]int{1, 2, 3, 4, 5, 6, 7, 8}, []int{6, 6, 5}}, {row(3, heaviest), []int{2, 2, 2}}, {[]int{1, heaviest}, []int{1, 1, 1}}, {[]int{heaviest, 1}, []int{0, 0, 0}}, {row(4, 65536), []int{3, 2, 3}}, {[]int{0, 0, 0, 1}, []int{3, 3, 3}}, {[]int{7, 0, 0, 0, 0, 9}, []int{0, 5, 5}},
		{row(512, 1), []int{358, 154, 280}}, {row(512, heaviest), []int{326, 40, 313}}, {with(row(512, 0), 511, 3), []int{511, 511, 511}}, {rising(512), []int{375, 328, 308}},
	} {
		for i, want := range c.places {
			stood := b.s.Count()
			if at, e := b.choose(c.weights...); at != want || e != api.OK || b.s.Count() != stood+1 {
				t.Errorf("Choose %d at %d, %d: %d %d", c.weights, stood, i, at, int(e))
			}
		}
	}
	if b.s.Count() != 154 {
		t.Error(b.s.Count())
	}
}

// TestChooseJustAbove has weights that are together just above what is drawn, and just not.
func TestChooseJustAbove(t *testing.T) { // P8.2
	for count := range 300 {
		const all = 1000
		x := wantNumber(few, count) % all
		for _, c := range []struct {
			weights []int
			at      int
		}{
			{[]int{x, all - x}, 1}, {[]int{x + 1, all - x - 1}, 0}, {[]int{x, 0, 0, 1, all - x - 1}, 3}, {[]int{0, x, 1, all - x - 1}, 2}, {[]int{0, 0, x, 0, all - x, 0}, 4},
		} {
			b := bothOf(t, few, count)
			if at, e := b.choose(c.weights...); at != c.at || e != api.OK {
				t.Fatalf("Choose %d, %d being drawn: %d %d", c.weights, x, at, int(e))
			}
		}
	}
}

// TestChooseIsBelow has as many weights of 1 as there are: the place is the number.
func TestChooseIsBelow(t *testing.T) { // P8.2
	for many := 1; many <= 512; many++ {
		b, c := bothOf(t, ones, many), bothOf(t, ones, many)
		at, e := b.choose(row(many, 1)...)
		if n, wantE := c.below(many); at != n || e != wantE || b.s.Count() != c.s.Count() {
			t.Fatalf("%d: %d %d, not %d", many, at, int(e), n)
		}
	}
}

// TestChooseOfOne has all weights be 0 but one.
func TestChooseOfOne(t *testing.T) { // P8.2, P8.3
	for _, many := range []int{1, 2, 3, 64, 511, 512} {
		for _, heavy := range []int{1, 2, 65536, heaviest - 1, heaviest} {
			b := bothOf(t, few, many)
			for _, i := range []int{0, many / 3, many / 2, many - 1} {
				if at, e := b.choose(with(row(many, 0), i, heavy)...); at != i || e != api.OK {
					t.Fatalf("%d of %d: %d %d", i, many, at, int(e))
				}
			}
			if b.s.Count() != many+4 {
				t.Fatal(b.s.Count())
			}
		}
	}
}

// TestChooseAsHeavy counts what is chosen: as often as it is heavy, and never where it weighs nothing.
func TestChooseAsHeavy(t *testing.T) { // P8.3
	for _, weights := range [][]int{{1, 2, 3, 4}, {0, 5, 0, 0, 5, 0}, {1 << 30, heaviest, 1 << 30}, {9, 0, 1}, {3}} {
		b := bothOf(t, noughts, 12345)
		all := 0
		for _, w := range weights {
			all += w
		}
		many := make([]int, len(weights))
		const draws = 10000
		for range draws {
			at, e := b.choose(weights...)
			if e != api.OK {
				t.Fatal(int(e))
			}
			many[at]++
		}
		for i, w := range weights {
			if off := many[i] - draws*w/all; off < -200 || off > 200 || w == 0 && many[i] != 0 {
				t.Errorf("%d of %d: %d", i, weights, many[i])
			}
		}
	}
}

// TestChoosePassesOver has a number passed over, and what comes behind it chosen by; where nothing comes behind it, the stream goes back.
func TestChoosePassesOver(t *testing.T) { // P8.2
	b := bothOf(t, noughts, 5420566)
	if at, e := b.choose(rare()...); at != 8007389321156528034%1099510579201/heaviest || e != api.OK || b.s.Count() != 5420568 {
		t.Error(at, int(e), b.s.Count())
	}
	for _, seed := range []uint64{364571, 2099936, 28000259} {
		b := bothOf(t, counted(seed), last-1)
		for range 2 {
			if at, e := b.choose(rare()...); at != 0 || e != api.ErrOver || b.s.Count() != last-1 {
				t.Error(at, int(e), b.s.Count())
			}
		}
	}
}

func TestChooseWrong(t *testing.T) { // P8.2, R1
	for i, c := range []struct {
		weights []int
		e       api.Errno
	}{
		{nil, api.ErrSize}, {[]int{}, api.ErrSize}, {row(513, 1), api.ErrSize}, {row(514, 0), api.ErrSize}, {row(5000, heaviest), api.ErrSize},
		{[]int{-1}, api.ErrRange}, {[]int{heaviest + 1}, api.ErrRange}, {[]int{math.MinInt}, api.ErrRange}, {[]int{math.MaxInt}, api.ErrRange}, {[]int{1 << 32}, api.ErrRange}, {[]int{1<<32 + 1}, api.ErrRange}, {[]int{-1 << 31}, api.ErrRange}, {[]int{-1<<32 + 1, 1}, api.ErrRange},
		{[]int{1, -1}, api.ErrRange}, {[]int{5, -1, 5}, api.ErrRange}, {[]int{-1, 5}, api.ErrRange}, {[]int{math.MaxInt, math.MaxInt, 5}, api.ErrRange}, {[]int{math.MinInt, math.MinInt}, api.ErrRange}, {with(row(512, 1), 511, -1), api.ErrRange}, {with(row(512, 1), 511, heaviest+1), api.ErrRange},
		{[]int{0}, api.ErrNone}, {[]int{0, 0}, api.ErrNone}, {row(512, 0), api.ErrNone},
		// Of two errors the one that is named first is told.
		{row(513, -1), api.ErrSize}, {row(513, heaviest+1), api.ErrSize}, {row(513, 0), api.ErrSize}, {[]int{0, 0, -1}, api.ErrRange}, {[]int{heaviest + 1, 0}, api.ErrRange}, {[]int{1, -1, 0}, api.ErrRange}, {[]int{7, -7}, api.ErrRange},
	} {
		b := bothOf(t, few, i)
		for range 2 {
			if at, e := b.choose(c.weights...); at != 0 || e != c.e || b.s.Count() != i {
				t.Errorf("%d: %d %d at %d, not %d", i, at, int(e), b.s.Count(), int(c.e))
			}
		}
		b.choose(1, 2, 3)
	}
}

// TestPickTold has answers that another program has worked out.
func TestPickTold(t *testing.T) { // P8.2
	b := bothOf(t, ones, 5)
	falling := row(20, 0)
	for i := range falling {
		falling[i] = -65536 * i
	}
	for _, c := range []struct {
		v      []int
		k      int
		places []int
		taken  int
	}{
		{[]int{3, 9, 9, 1}, 1, []int{1, 1, 1}, 0}, {[]int{3, 9, 9, 1}, 2, []int{2, 1, 1}, 3}, {[]int{3, 9, 9, 1}, 4, []int{2, 3, 1}, 3}, {[]int{5}, 1, []int{0, 0, 0}, 0}, {[]int{7, 7}, 2, []int{1, 1, 1}, 3},
		{[]int{65536, 131072, 0, -65536}, 3, []int{0, 0, 1}, 3}, {[]int{65536, 131072, 0, -65536}, 4, []int{3, 1, 1}, 3}, {[]int{0, -1048576, 0}, 3, []int{0, 0, 2}, 3}, {[]int{1<<31 - 1, -1 << 31}, 2, []int{0, 0, 0}, 3}, {row(5, -1<<31), 5, []int{4, 1, 3}, 3},
		{[]int{1, 2, 3, 4, 5, 6, 7, 8}, 5, []int{5, 7, 6}, 3}, {falling, 20, []int{0, 1, 2}, 3}, {row(512, 0), 512, []int{467, 287, 229}, 3}, {rising(512), 300, []int{377, 494, 305}, 3},
	} {
		stood := b.s.Count()
		for _, want := range c.places {
			if at, e := b.pick(c.v, c.k); at != want || e != api.OK {
				t.Errorf("Pick %d of %d: %d %d, not %d", c.k, c.v, at, int(e), want)
			}
		}
		if b.s.Count() != stood+c.taken {
			t.Errorf("Pick %d of %d: from %d to %d", c.k, c.v, stood, b.s.Count())
		}
	}
}

// TestPickOfOne takes nothing, wherever the stream stands.
func TestPickOfOne(t *testing.T) { // P8.2
	for _, v := range [][]int{{5}, {3, 9, 9, 1}, {9, 9}, {1<<31 - 1, -1 << 31}, {-1 << 31, 1<<31 - 1}, row(512, 7), rising(512)} {
		for _, count := range []int{0, 7, last} {
			b := bothOf(t, few, count)
			if at, e := b.pick(v, 1); at != slices.Index(v, slices.Max(v)) || e != api.OK || b.s.Count() != count {
				t.Fatalf("Pick 1 of %d: %d %d at %d", v, at, int(e), b.s.Count())
			}
		}
	}
}

// TestPickIsOneOfTheGreatest has vectors of all sizes, with few numbers many times each, or numbers of all lengths.
func TestPickIsOneOfTheGreatest(t *testing.T) { // P8.2, P8.3
	c := newChance(88)
	for range 2000 {
		b := bothOf(t, few, c.IntN(1<<40))
		v := make([]int, 1+c.IntN(512)>>c.IntN(10))
		bits := c.IntN(32)
		for i := range v {
			v[i] = int(int32(c.Uint32())) >> bits
		}
		k := 1 + c.IntN(len(v))
		stood := b.s.Count()
		at, e := b.pick(v, k)
		top, _ := tensor.Top(v, k)
		if e != api.OK || !slices.Contains(top, at) {
			t.Fatalf("Pick %d of %d: %d %d", k, v, at, int(e))
		}
		if taken := b.s.Count() - stood; k > 1 && taken != 1 || k == 1 && taken != 0 {
			t.Fatalf("Pick %d of %d: %d are taken", k, v, taken)
		}
	}
}

// TestPickByShares counts what is picked: as often as its share, and never where that is 0.
func TestPickByShares(t *testing.T) { // P8.2, P8.3
	for _, c := range []struct {
		v []int
		k int
	}{
		{[]int{0, 65536, -65536, 1000}, 4}, {[]int{0, 65536, -65536, 1000}, 2}, {[]int{-1048576, 0, -1048576, 0, -720000}, 5}, {[]int{-1 << 31, 1<<31 - 1, -1 << 31}, 3}, {[]int{7, 7, 7, 7}, 3},
	} {
		top, _ := tensor.Top(c.v, c.k)
		var numbers []int
		for _, at := range top {
			numbers = append(numbers, c.v[at])
		}
		shares, _ := tensor.Softmax(numbers)
		many := map[int]int{}
		b := bothOf(t, few, 0)
		const draws = 5000
		for range draws {
			at, e := b.pick(c.v, c.k)
			if e != api.OK {
				t.Fatal(int(e))
			}
			many[at]++
		}
		seen := 0
		for i, at := range top {
			seen += many[at]
			if off := many[at] - draws*shares[i]/65536; off < -150 || off > 150 || shares[i] == 0 && many[at] != 0 {
				t.Errorf("%d of %d: %d, of a share %d", at, c.v, many[at], shares[i])
			}
		}
		if seen != draws {
			t.Error(seen)
		}
	}
}

func TestPickWrong(t *testing.T) { // P8.2, R1
	for i, c := range []struct {
		v []int
		k int
		e api.Errno
	}{
		{nil, 1, api.ErrSize}, {[]int{}, 0, api.ErrSize}, {row(513, 1), 1, api.ErrSize}, {row(513, 1), 2, api.ErrSize}, {row(513, 1<<31), 0, api.ErrSize},
		{[]int{1 << 31}, 1, api.ErrRange}, {[]int{1, -1<<31 - 1}, 2, api.ErrRange}, {[]int{math.MaxInt, math.MinInt}, 2, api.ErrRange}, {[]int{1, 1 << 32, 2}, 1, api.ErrRange}, {with(row(512, 0), 511, 1<<31), 512, api.ErrRange},
		{[]int{1, 2}, 0, api.ErrRange}, {[]int{1, 2}, -1, api.ErrRange}, {[]int{1, 2}, 3, api.ErrRange}, {[]int{1, 2}, math.MinInt, api.ErrRange}, {[]int{1, 2}, math.MaxInt, api.ErrRange}, {[]int{1, 2}, 1<<32 + 1, api.ErrRange}, {[]int{5}, 2, api.ErrRange}, {row(512, 1), 513, api.ErrRange},
	} {
		b := bothOf(t, few, i)
		for range 2 {
			if at, e := b.pick(c.v, c.k); at != 0 || e != c.e || b.s.Count() != i {
				t.Errorf("%d: %d %d at %d, not %d", i, at, int(e), b.s.Count(), int(c.e))
			}
		}
		b.next()
		b.pick([]int{1, 2, 3}, 3)
	}
}

// TestTopsErrors has all that Pick answers of what may not be be what Top answers of it.
func TestTopsErrors(t *testing.T) { // P8.2, R1
	for _, v := range [][]int{nil, {}, {1}, {1, 2, 3}, {1, 1 << 31}, row(512, 4), row(513, 4), row(513, 1<<40)} {
		for _, k := range append(below0(), 0, 1, 2, 3, 4, 511, 512, 513, 1<<32, math.MaxInt) {
			_, want := tensor.Top(v, k)
			b := bothOf(t, few, 9)
			if _, e := b.pick(v, k); e != want {
				t.Errorf("Pick %d of %d: %d, not %d", k, v, int(e), int(want))
			}
		}
	}
}
