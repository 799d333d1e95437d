package weights_test

import (
	"crypto/sha256"
	"encoding/hex"
	"slices"
	"testing"

	"cupel/api"
	"cupel/bpe"
	"cupel/weights"
)

// counted is a model whose numbers hang on their places alone.
func counted(c weights.Config, alphabet string, pairs []bpe.Pair, number func(i int) int) weights.Weights {
	w := weights.Weights{Config: c, Alphabet: []byte(alphabet), Pairs: pairs, Layers: make([]weights.Layer, c.Layers)}
	at := 0
	for _, s := range stands(&w) {
		if s.matrix != nil {
			s.matrix.Rows, s.matrix.Cols = s.rows, s.cols
		}
		for range s.rows * s.cols {
			*s.list() = append(*s.list(), number(at))
			at++
		}
	}
	return w
}

// TestKnown has digests that were not made in Go.
func TestKnown(t *testing.T) { // P10.2
	for _, c := range []struct {
		w           weights.Weights
		many, size  int
		root, bytes string
	}{
		{
			counted(small, "ab", []bpe.Pair{{A: 0, B: 1}}, func(i int) int { return i }), 22, 486,
			"0982b6da0f1319d80bee129af185cc9d4bda2a6025d053845f4e8e632bc7d847", "6c77437037ebc588c2bbb5c217432af0b7814ffe103a71b964ac15d5e58d76cb",
		},
		{
			counted(least, "\xff", nil, func(i int) int { return -i }), 18, 389,
			"93f72d5a54d696a98851930764dd6d743812af550e84583f13f383180384bf63", "2a9b77b9814c3c52ec17c689022710ad00cb03111d0629e9123f06c03419af48",
		},
		{
			counted(middle, "tre!", []bpe.Pair{{A: 0, B: 1}, {A: 4, B: 2}, {A: 5, B: 2}}, func(i int) int { return i*7919*65537%(1<<25) - 1<<24 }), 112, 4208,
			"bc7e3653810ea334d9a11cef5144a863439dc2e9bec68ad21bd68532f118dc91", "e835d6faeb68b89e87f14ed08abe0b06a9959dcb7935f2c5b151b1369015106e",
		},
	} {
		holds(t, "known", c.w)
		l, _ := weights.Leaves(c.w)
		root, _ := weights.Root(c.w)
		b, _ := weights.Encode(c.w)
		sum := sha256.Sum256(b)
		if len(l) != c.many || len(b) != c.size || hex.EncodeToString(root[:]) != c.root || hex.EncodeToString(sum[:]) != c.bytes {
			t.Errorf("%v: %d %d %x %x", c.w.Config, len(l), len(b), root, sum)
		}
	}
}

// TestLeavesTold has leaves as they are to be read in the chapter.
func TestLeavesTold(t *testing.T) { // P10.2
	w := counted(small, "ab", []bpe.Pair{{A: 0, B: 1}}, func(i int) int { return 10 * i })
	l, e := weights.Leaves(w)
	if e != api.OK {
		t.Fatal(int(e))
	}
	want := []string{
		"\x00\x00\x00\x30" + string(written(3, 2, 1, 1, 4, 1)) + "\x00\x00\x00\x02ab\x00\x00\x00\x10" + string(written(0, 1)),
		string(written(0, 10)), string(written(20, 30)), string(written(40, 50)),
		string(written(60, 70)),
		string(written(80, 90)), string(written(100, 110)), string(written(120, 130)), string(written(140, 150)), string(written(160, 170)), string(written(180, 190)), string(written(200, 210)), string(written(220, 230)),
		string(written(240, 250)), string(written(260, 270)), string(written(280, 290)),
		string(written(300)), string(written(310)),
		string(written(320, 330)), string(written(340, 350)), string(written(360, 370)), string(written(380, 390)),
	}
	if len(l) != len(want) {
		t.Fatal(len(l))
	}
	for i, leaf := range l {
		if string(leaf) != want[i] {
			t.Errorf("%d: %q, not %q", i, leaf, want[i])
		}
	}
}

// TestFirstLeaf has no pairs, one, and many.
func TestFirstLeaf(t *testing.T) { // P10.2
	for _, vocab := range []int{1, 2, 3, 7, 64, 511, 512} {
		w := model(weights.Config{Vocab: vocab, Dim: 2, Heads: 1, Layers: 1, Ctx: 7, Hidden: 1}, 8)
		l, e := weights.Leaves(w)
		if e != api.OK || !slices.Equal(l[0], head(w)) || len(l[0]) != 12+48+len(w.Alphabet)+16*len(w.Pairs) {
			t.Errorf("%d: %d %d", vocab, len(l), int(e))
		}
	}
}

// TestLeafOfEachPart turns one number of each part: the leaf at its place is another one, and all others stay.
func TestLeafOfEachPart(t *testing.T) { // P10.1, P10.2
	for _, c := range []weights.Config{small, middle} {
		before, e := weights.Leaves(model(c, 9))
		if e != api.OK {
			t.Fatal(int(e))
		}
		root, _ := weights.Root(model(c, 9))
		for _, p := range allParts(c) {
			w := model(c, 9)
			row := rowOf(&w, p)
			// One nearer to 0, or 1, so that it may be.
			if last := &row[len(row)-1]; *last > 0 {
				*last--
			} else {
				*last++
			}
			after, e := weights.Leaves(w)
			place, placeE := c.Place(p)
			if e != api.OK || placeE != api.OK || len(after) != len(before) {
				t.Fatal(p, int(e), int(placeE), len(after))
			}
			for i := range after {
				if slices.Equal(after[i], before[i]) == (i == place) {
					t.Errorf("%v is at %d: %d", p, place, i)
				}
			}
			if !slices.Equal(after[place], written(row...)) {
				t.Errorf("%v: %q", p, after[place])
			}
			if d, e := weights.Root(w); d == root || e != api.OK {
				t.Errorf("%v: the root stays", p)
			}
		}
	}
}

// rowOf is a part's numbers, where they stand.
func rowOf(w *weights.Weights, p weights.Part) []int {
	var l []int
	switch y := &w.Layers[p.Layer]; p.Kind {
	case weights.Embed:
		l = w.Embed.L
	case weights.Norm1:
		l = y.Norm1
	case weights.Query:
		l = y.Query.L
	case weights.Key:
		l = y.Key.L
	case weights.Value:
		l = y.Value.L
	case weights.Output:
		l = y.Output.L
	case weights.Norm2:
		l = y.Norm2
	case weights.Gate:
		l = y.Gate.L
	case weights.Up:
		l = y.Up.L
	case weights.Down:
		l = y.Down.L
	case weights.Norm:
		l = w.Norm
	case weights.Out:
		l = w.Out.L
	}
	cols := w.Config.Dim
	if p.Kind == weights.Down {
		cols = w.Config.Hidden
	}
	return l[p.Row*cols : (p.Row+1)*cols]
}

// TestRootSeesAll turns what is not in parts: sizes, alphabet and pairs.
func TestRootSeesAll(t *testing.T) { // P10.2
	seen := map[api.Digest]string{}
	for what, turn := range map[string]func(w *weights.Weights){
		"as made":       func(w *weights.Weights) {},
		"heads":         func(w *weights.Weights) { w.Config.Heads = 1 },
		"ctx":           func(w *weights.Weights) { w.Config.Ctx = 10 },
		"a byte":        func(w *weights.Weights) { w.Alphabet[3] = 0 },
		"order":         func(w *weights.Weights) { slices.Reverse(w.Alphabet) },
		"a pair":        func(w *weights.Weights) { w.Pairs[2].B = 3 },
		"pairs' order":  func(w *weights.Weights) { w.Pairs[0], w.Pairs[1] = w.Pairs[1], w.Pairs[0] },
		"layers' order": func(w *weights.Weights) { slices.Reverse(w.Layers) },
		"a layer twice": func(w *weights.Weights) { w.Layers[2] = w.Layers[0] },
		"in and out":    func(w *weights.Weights) { w.Embed, w.Out = w.Out, w.Embed },
		"gate and up":   func(w *weights.Weights) { w.Layers[1].Gate, w.Layers[1].Up = w.Layers[1].Up, w.Layers[1].Gate },
		"norms":         func(w *weights.Weights) { w.Layers[0].Norm1, w.Layers[0].Norm2 = w.Layers[0].Norm2, w.Layers[0].Norm1 },
	} {
		w := turned(turn)
		holds(t, what, w)
		root, _ := weights.Root(w)
		if other, is := seen[root]; is {
			t.Errorf("%s and %s have one root", what, other)
		}
		seen[root] = what
	}
}
