package weights_test

import (
	"slices"
	"testing"

	"cupel/api"
	"cupel/weights"
)

// sized holds Check, Many and Place to the error of sizes, or to none.
func sized(t *testing.T, c weights.Config, e api.Errno) {
	t.Helper()
	if is := c.Check(); is != e {
		t.Errorf("Check of %v: %d, not %d", c, int(is), int(e))
	}
	many, is := c.Many()
	if want, _ := wantMany(c); many != want || is != e {
		t.Errorf("Many of %v: %d %d, not %d %d", c, many, int(is), want, int(e))
	}
	for _, p := range []weights.Part{{Kind: weights.Embed}, {Kind: weights.Out}, {}, {Kind: 13}, {Kind: weights.Query, Row: 1}, {Kind: weights.Norm, Row: -1}} {
		place(t, c, p)
	}
}

// place holds Place to what is wanted.
func place(t *testing.T, c weights.Config, p weights.Part) {
	t.Helper()
	n, e := c.Place(p)
	if want, wantE := wantPlace(c, p); n != want || e != wantE {
		t.Errorf("Place of %v in %v: %d %d, not %d %d", p, c, n, int(e), want, int(wantE))
	}
}

func TestExample(t *testing.T) { // P10.1, the chapter's example
	if e := small.Check(); e != api.OK {
		t.Error(int(e))
	}
	if many, e := small.Many(); many != 22 || e != api.OK {
		t.Error(many, int(e))
	}
	if n, e := small.Place(weights.Part{Kind: weights.Query, Row: 1}); n != 6 || e != api.OK {
		t.Error(n, int(e))
	}
}

func TestKinds(t *testing.T) { // P10.1
	l := []int{weights.Embed, weights.Norm1, weights.Query, weights.Key, weights.Value, weights.Output, weights.Norm2, weights.Gate, weights.Up, weights.Down, weights.Norm, weights.Out}
	for i, kind := range l {
		if kind != i+1 {
			t.Errorf("%d, not %d", kind, i+1)
		}
	}
	if len(l) != mostKinds {
		t.Error(len(l))
	}
}

// TestSizesTold has sizes as they are to be read in the chapter.
func TestSizesTold(t *testing.T) { // P10.1
	type config = weights.Config
	for _, c := range []struct {
		c    config
		many int
		e    api.Errno
	}{
		{least, 1 + 1 + 1 + 8 + 1 + 1 + 1 + 2 + 1 + 1, api.OK}, {greatest, 1 + 512 + 4*(1+256+1+64+64+64) + 1 + 512, api.OK}, {middle, 1 + 7 + 3*(1+16+1+5+5+4) + 1 + 7, api.OK},
		{config{}, 0, api.ErrRange}, {config{512, 64, 1, 4, 64, 64}, 2826, api.OK}, {config{1, 16, 8, 1, 1, 1}, 1 + 1 + 84 + 1 + 1, api.OK},
		// What is beyond api's limits, and one within.
		{config{0, 2, 1, 1, 1, 1}, 0, api.ErrRange}, {config{513, 2, 1, 1, 1, 1}, 0, api.ErrRange}, {config{512, 2, 1, 1, 1, 1}, 1040, api.OK},
		{config{1, 1, 1, 1, 1, 1}, 0, api.ErrRange}, {config{1, 0, 1, 1, 1, 1}, 0, api.ErrRange}, {config{1, 65, 1, 1, 1, 1}, 0, api.ErrRange}, {config{1, 66, 1, 1, 1, 1}, 0, api.ErrRange}, {config{1, 64, 1, 1, 1, 1}, 328, api.OK},
		{config{1, 16, 0, 1, 1, 1}, 0, api.ErrRange}, {config{1, 18, 9, 1, 1, 1}, 0, api.ErrRange}, {config{1, 16, -8, 1, 1, 1}, 0, api.ErrRange},
		{config{1, 2, 1, 0, 1, 1}, 0, api.ErrRange}, {config{1, 2, 1, 5, 1, 1}, 0, api.ErrRange}, {config{1, 2, 1, 4, 1, 1}, 60, api.OK},
		{config{1, 2, 1, 1, 0, 1}, 0, api.ErrRange}, {config{1, 2, 1, 1, 65, 1}, 0, api.ErrRange}, {config{1, 2, 1, 1, 64, 1}, 18, api.OK},
		{config{1, 2, 1, 1, 1, 0}, 0, api.ErrRange}, {config{1, 2, 1, 1, 1, 65}, 0, api.ErrRange}, {config{1, 2, 1, 1, 1, 64}, 144, api.OK},
		// Dim, and so many times 2 times Heads.
		{config{1, 3, 1, 1, 1, 1}, 0, api.ErrSize}, {config{1, 63, 1, 1, 1, 1}, 0, api.ErrSize}, {config{1, 2, 2, 1, 1, 1}, 0, api.ErrSize}, {config{1, 6, 2, 1, 1, 1}, 0, api.ErrSize}, {config{1, 8, 2, 1, 1, 1}, 48, api.OK},
		{config{1, 64, 7, 1, 1, 1}, 0, api.ErrSize}, {config{1, 56, 7, 1, 1, 1}, 288, api.OK}, {config{1, 2, 8, 1, 1, 1}, 0, api.ErrSize}, {config{1, 8, 8, 1, 1, 1}, 0, api.ErrSize}, {config{1, 24, 8, 1, 1, 1}, 0, api.ErrSize}, {config{1, 30, 3, 1, 1, 1}, 158, api.OK},
	} {
		sized(t, c.c, c.e)
		if many, e := c.c.Many(); many != c.many || e != c.e {
			t.Errorf("%v: %d %d, not %d %d", c.c, many, int(e), c.many, int(c.e))
		}
	}
}

// TestSizesEach turns each size of some to all near its least and its greatest, and far from them.
func TestSizesEach(t *testing.T) { // P10.1
	for _, c := range someConfigs() {
		for i, s := range sizesOf(&weights.Config{}) {
			for _, n := range append(farNumbers(), s.least-2, s.least-1, s.least, s.least+1, s.most-1, s.most, s.most+1, s.most+2) {
				turned := c
				*sizesOf(&turned)[i].n = n
				sized(t, turned, wantConfig(turned))
				if is := turned.Check(); (n < s.least || n > s.most) != (is == api.ErrRange) {
					t.Errorf("%v: %d", turned, int(is))
				}
			}
		}
	}
}

func TestDimsAndHeads(t *testing.T) { // P10.1
	for dim := -1; dim < 70; dim++ {
		for heads := -1; heads < 11; heads++ {
			c := weights.Config{Vocab: 3, Dim: dim, Heads: heads, Layers: 1, Ctx: 1, Hidden: 1}
			e := api.OK
			switch {
			case dim < 2 || dim > 64 || heads < 1 || heads > 8:
				e = api.ErrRange
			case dim%2 == 1 || dim/2%heads != 0:
				e = api.ErrSize
			}
			sized(t, c, e)
		}
	}
}

// TestWhichErrorOfSizes: any size out of its range comes ahead of Dim and Heads that don't go together.
func TestWhichErrorOfSizes(t *testing.T) { // P10.1, R1
	for _, c := range []weights.Config{{Vocab: 3, Dim: 3, Heads: 1, Layers: 1, Ctx: 4, Hidden: 1}, {Vocab: 512, Dim: 62, Heads: 8, Layers: 4, Ctx: 64, Hidden: 64}} {
		sized(t, c, api.ErrSize)
		for i, s := range sizesOf(&weights.Config{}) {
			for _, n := range append(farNumbers(), s.least-1, s.most+1) {
				if n >= s.least && n <= s.most {
					continue
				}
				turned := c
				*sizesOf(&turned)[i].n = n
				sized(t, turned, api.ErrRange)
			}
		}
	}
}

// TestPlacesTold has places as they are to be read in the chapter.
func TestPlacesTold(t *testing.T) { // P10.1
	type part = weights.Part
	// A layer of middle has 32 leaves.
	for _, c := range []struct {
		p part
		n int
	}{
		{part{weights.Embed, 0, 0}, 1}, {part{weights.Embed, 0, 6}, 7},
		{part{weights.Norm1, 0, 0}, 8}, {part{weights.Query, 0, 0}, 9}, {part{weights.Query, 0, 3}, 12}, {part{weights.Key, 0, 0}, 13}, {part{weights.Key, 0, 3}, 16}, {part{weights.Value, 0, 0}, 17}, {part{weights.Value, 0, 3}, 20}, {part{weights.Output, 0, 0}, 21}, {part{weights.Output, 0, 3}, 24},
		{part{weights.Norm2, 0, 0}, 25}, {part{weights.Gate, 0, 0}, 26}, {part{weights.Gate, 0, 4}, 30}, {part{weights.Up, 0, 0}, 31}, {part{weights.Up, 0, 4}, 35}, {part{weights.Down, 0, 0}, 36}, {part{weights.Down, 0, 3}, 39},
		{part{weights.Norm1, 1, 0}, 40}, {part{weights.Query, 1, 2}, 43}, {part{weights.Down, 1, 3}, 71}, {part{weights.Norm1, 2, 0}, 72}, {part{weights.Norm2, 2, 0}, 89}, {part{weights.Down, 2, 3}, 103},
		{part{weights.Norm, 0, 0}, 104}, {part{weights.Out, 0, 0}, 105}, {part{weights.Out, 0, 6}, 111},
	} {
		place(t, middle, c.p)
		if n, e := middle.Place(c.p); n != c.n || e != api.OK {
			t.Errorf("%v: %d %d, not %d", c.p, n, int(e), c.n)
		}
	}
}

// TestPlacesEach has each kind's rows and layers, near all edges and far from them.
func TestPlacesEach(t *testing.T) { // P10.1
	for _, c := range []weights.Config{least, small, middle, {Vocab: 512, Dim: 6, Heads: 3, Layers: 4, Ctx: 64, Hidden: 64}} {
		for kind := 1; kind <= mostKinds; kind++ {
			many := rowsOf(c, kind)
			for _, layer := range append(farNumbers(), 0, 1, c.Layers-1, c.Layers, c.Layers+1, 3, 4) {
				for _, row := range append(farNumbers(), 0, 1, many-1, many, many+1) {
					place(t, c, weights.Part{Kind: kind, Layer: layer, Row: row})
					n, e := c.Place(weights.Part{Kind: kind, Layer: layer, Row: row})
					is := row >= 0 && row < many && (layer == 0 || isOfLayer(kind) && layer > 0 && layer < c.Layers)
					if is != (e == api.OK) || !is && (n != 0 || e != api.ErrRange) {
						t.Errorf("kind %d, layer %d, row %d of %v: %d %d", kind, layer, row, c, n, int(e))
					}
				}
			}
		}
	}
}

func TestPlaceOfNoKind(t *testing.T) { // P10.1
	for _, c := range someConfigs() {
		for _, kind := range append(farNumbers(), 0, 13, 14, 24, 12+c.Layers*9) {
			for layer := -1; layer <= c.Layers; layer++ {
				for row := -1; row < 3; row++ {
					if n, e := c.Place(weights.Part{Kind: kind, Layer: layer, Row: row}); n != 0 || e != api.ErrRange {
						t.Errorf("kind %d, layer %d, row %d of %v: %d %d", kind, layer, row, c, n, int(e))
					}
				}
			}
		}
	}
}

// TestPlaceOfNoSizes: the error of sizes comes ahead of a part that there is not.
func TestPlaceOfNoSizes(t *testing.T) { // P10.1, R1
	c := weights.Config{Vocab: 3, Dim: 3, Heads: 1, Layers: 1, Ctx: 4, Hidden: 1}
	for _, p := range []weights.Part{{}, {Kind: 13}, {Kind: -1, Layer: -1, Row: -1}, {Kind: weights.Embed, Row: 3}, {Kind: weights.Out, Layer: 1}, {Kind: weights.Query, Layer: 1}, {Kind: weights.Query, Row: 2}} {
		if n, e := c.Place(p); n != 0 || e != api.ErrSize {
			t.Errorf("%v: %d %d", p, n, int(e))
		}
	}
}

// TestPlacesAreAllOnce: what stands at 0 is the first leaf, and at any other place one part.
func TestPlacesAreAllOnce(t *testing.T) { // P10.4
	for _, c := range append(someConfigs(), greatest) {
		many, e := c.Many()
		if e != api.OK {
			t.Fatal(int(e))
		}
		seen := make([]int, many)
		for kind := -1; kind <= mostKinds+2; kind++ {
			for layer := -1; layer <= c.Layers; layer++ {
				for row := -1; row <= 512; row++ {
					if n, e := c.Place(weights.Part{Kind: kind, Layer: layer, Row: row}); e == api.OK {
						seen[n]++
					}
				}
			}
		}
		if seen[0] != 0 || slices.Min(seen[1:]) != 1 || slices.Max(seen[1:]) != 1 {
			t.Errorf("%v: %d", c, seen)
		}
	}
}

// TestPlacesAreInOrder has the parts of one kind and layer be row by row, and the rest in the chapter's order.
func TestPlacesAreInOrder(t *testing.T) { // P10.1, P10.4
	for _, c := range append(someConfigs(), greatest) {
		for i, p := range allParts(c) {
			if n, e := c.Place(p); n != i+1 || e != api.OK {
				t.Fatalf("%v of %v: %d %d, not %d", p, c, n, int(e), i+1)
			}
		}
		if many, e := c.Many(); many != len(allParts(c))+1 || e != api.OK {
			t.Errorf("%v: %d %d", c, many, int(e))
		}
	}
}

func FuzzPlace(f *testing.F) { // P10.1, R1
	f.Add(3, 2, 1, 1, 4, 1, 3, 0, 1)
	f.Add(512, 64, 8, 4, 64, 64, 12, 0, 511)
	f.Add(512, 64, 8, 4, 64, 64, 10, 3, 63)
	f.Add(1, 3, 1, 1, 1, 1, 13, -1, -1)
	f.Add(-1<<63, 1<<62, -1, 5, 0, 65, -1<<63, -1<<63, 1<<62)
	f.Fuzz(func(t *testing.T, vocab, dim, heads, layers, ctx, hidden, kind, layer, row int) {
		c := weights.Config{Vocab: vocab, Dim: dim, Heads: heads, Layers: layers, Ctx: ctx, Hidden: hidden}
		sized(t, c, wantConfig(c))
		place(t, c, weights.Part{Kind: kind, Layer: layer, Row: row})
	})
}
