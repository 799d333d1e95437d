package draw_test

import (
	"testing"

	"cupel/api"
)

func TestExamples(t *testing.T) {
	b := bothOf(t, few, 5)
	if n, e := b.below(1); n != 0 || e != api.OK || b.s.Count() != 6 {
		t.Error(n, int(e), b.s.Count())
	}
	if n, e := b.pick([]int{3, 9, 9}, 1); n != 1 || e != api.OK || b.s.Count() != 6 {
		t.Error(n, int(e), b.s.Count())
	}
}

// TestBelowTold has answers that another program has worked out.
func TestBelowTold(t *testing.T) { // P8.2
	for _, c := range []struct {
		seed          api.Digest
		at, of, n, to int
	}{
		{noughts, 0, 1, 0, 1}, {noughts, 1, 2, 0, 2}, {ones, 1, 2, 1, 2}, {noughts, 2, 3, 2, 3}, {noughts, 3, 10, 6, 4}, {noughts, 4, 16, 1, 5}, {noughts, 5, 255, 19, 6}, {noughts, 6, 256, 90, 7}, {noughts, 7, 257, 183, 8}, {noughts, 8, 65536, 59574, 9},
		{noughts, 9, 1000003, 307372, 10}, {noughts, 10, 1 << 31, 882404647, 11}, {noughts, 11, 1<<32 + 1, 582320944, 12}, {noughts, 12, 1 << 40, 350114744203, 13},
		{noughts, 13, 1 << 61, 1780674873533912658, 14}, {noughts, 14, 1<<61 + 1, 1091192084065724919, 15}, {noughts, 15, 1<<62 - 1, 612522840131161780, 16}, {noughts, 16, 1 << 62, 3185945952713691641, 17}, {noughts, 17, half, 962377839994384109, 18},
		{noughts, 20, last, 1272090062762999106, 21}, {noughts, 21, last - 1, 5001656016451357276, 22},
		// Some are passed over.
		{noughts, 22, 3 << 61, 3144560141113802469, 24}, {noughts, 25, 3074457345618258603, 1872350367471915922, 27}, {ones, 18, half, 2019054967320572523, 21}, {few, 19, half, 3969032333053080193, 31},
		{noughts, 5420566, 1099510579201, 8007389321156528034 % 1099510579201, 5420568}, {counted(364571), last - 1, 1, 0, last},
	} {
		b := bothOf(t, c.seed, c.at)
		if n, e := b.below(c.of); n != c.n || e != api.OK || b.s.Count() != c.to {
			t.Errorf("Below %d at %d: %d %d at %d, not %d at %d", c.of, c.at, n, int(e), b.s.Count(), c.n, c.to)
		}
	}
}

// TestBelowOfPowers has them pass nothing over.
func TestBelowOfPowers(t *testing.T) { // P8.2
	for k := range 63 {
		b := bothOf(t, few, 1000*k)
		for i := range 20 {
			n, e := b.below(1 << k)
			if x := wantNumber(few, 1000*k+i); n != x&(1<<k-1) || e != api.OK || b.s.Count() != 1000*k+i+1 {
				t.Fatalf("Below %d: %d %d at %d", 1<<k, n, int(e), b.s.Count())
			}
		}
	}
}

// TestBelowPassesOver has numbers that are just passed over, and just not.
func TestBelowPassesOver(t *testing.T) { // P8.2
	seen := 0
	for count := range 200 {
		x := wantNumber(ones, count)
		if x <= 1<<62 {
			continue
		}
		seen++
		// Of the number itself, which is once in 2^63, the number is no answer.
		b := bothOf(t, ones, count)
		if n, e := b.below(x); n >= x || e != api.OK || b.s.Count() == count+1 {
			t.Fatalf("Below %d: %d %d at %d", x, n, int(e), b.s.Count())
		}
		b = bothOf(t, ones, count)
		if n, e := b.below(x + 1); n != x || e != api.OK || b.s.Count() != count+1 {
			t.Fatalf("Below %d: %d %d at %d", x+1, n, int(e), b.s.Count())
		}
	}
	if seen < 50 {
		t.Error(seen)
	}
}

// TestBelowOfMany has numbers of all lengths, also those that leave a rest of 2^63.
func TestBelowOfMany(t *testing.T) { // P8.2, P8.3
	c := newChance(8)
	passed := 0
	for range 3000 {
		b := bothOf(t, seeds()[c.IntN(5)], c.IntN(last)>>c.IntN(63))
		of := 1 + c.IntN(last)>>(c.IntN(63)*c.IntN(2))
		stood := b.s.Count()
		n, e := b.below(of)
		if e == api.OK && (n < 0 || n >= of) {
			t.Fatalf("Below %d: %d", of, n)
		}
		passed += b.s.Count() - stood - 1
	}
	if passed < 50 {
		t.Error(passed)
	}
}

// TestBelowPassesManyOver has as many ones that are passed over in a row as a long search has told.
func TestBelowPassesManyOver(t *testing.T) { // P8.2
	const from, passed = 15608611663, 31
	b := bothOf(t, noughts, from)
	if n, e := b.below(half); n != 3187333330037943222 || e != api.OK || b.s.Count() != from+passed+1 {
		t.Error(n, int(e), b.s.Count())
	}
}

// TestBelowComesToTheEnd has streams whose last numbers are all passed over: they go back by all of them.
func TestBelowComesToTheEnd(t *testing.T) { // P8.2
	longest := 0
	for i := range uint64(2000) {
		seed, ahead := counted(i), 0
		for wantNumber(seed, last-1-ahead) >= half {
			ahead++
		}
		longest = max(longest, ahead)
		b := bothOf(t, seed, last-ahead)
		for range 2 {
			if n, e := b.below(half); n != 0 || e != api.ErrOver || b.s.Count() != last-ahead {
				t.Fatalf("Below at %d: %d %d at %d", last-ahead, n, int(e), b.s.Count())
			}
		}
		b = bothOf(t, seed, last-ahead-1)
		if n, e := b.below(half); n != wantNumber(seed, last-ahead-1) || e != api.OK {
			t.Fatalf("Below at %d: %d %d", last-ahead-1, n, int(e))
		}
	}
	if longest < 8 {
		t.Error(longest)
	}
}

func TestBelowWrong(t *testing.T) { // P8.2, R1
	for _, of := range append(below0(), 0) {
		b := bothOf(t, few, 5)
		for range 2 {
			if n, e := b.below(of); n != 0 || e != api.ErrRange || b.s.Count() != 5 {
				t.Errorf("Below %d: %d %d at %d", of, n, int(e), b.s.Count())
			}
		}
		// The stream goes on as if it had not been asked.
		b.next()
		b.below(10)
	}
}

// TestBelowIsEven counts what comes of small numbers.
func TestBelowIsEven(t *testing.T) { // P8.3
	for _, of := range []int{2, 3, 5, 8, 10} {
		b := bothOf(t, few, 0)
		many := make([]int, of)
		for range 1000 * of {
			n, e := b.below(of)
			if e != api.OK {
				t.Fatal(int(e))
			}
			many[n]++
		}
		for n, x := range many {
			if x < 850 || x > 1150 {
				t.Errorf("Below %d: %d comes %d times", of, n, x)
			}
		}
	}
}

// TestBelowOfThirds has each third of what is below a great number come as often as the others, which is not so where no number is passed over.
func TestBelowOfThirds(t *testing.T) { // P8.3
	b := bothOf(t, few, 0)
	const of = 3 << 61
	thirds := [3]int{}
	for range 3000 {
		n, e := b.below(of)
		if e != api.OK || n < 0 || n >= of {
			t.Fatal(n, int(e))
		}
		thirds[n>>61]++
	}
	for i, x := range thirds {
		if x < 850 || x > 1150 {
			t.Error(i, x)
		}
	}
}
