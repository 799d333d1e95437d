package weights_test

import (
	"bytes"
	"fmt"
	"slices"
	"sync"
	"testing"

	"cupel/api"
	"cupel/bpe"
	"cupel/weights"
)

// roomBehind is how many things stand behind the length of what is handed in.
const roomBehind = 9

// inRoom is things that stand with room behind them in a longer row; and that row.
func inRoom[T any](v []T, behind T) (stood, room []T) {
	room = append(slices.Clone(v), slices.Repeat([]T{behind}, roomBehind)...)
	return room[:len(v)], room
}

// roomy is a model that stands in room; all that is told of it tells what stands there now, behind its lists, too.
func roomy(w weights.Weights) (weights.Weights, func() string) {
	w.Layers, _ = inRoom(w.Layers, weights.Layer{Norm1: []int{7}})
	var rooms []any
	for _, s := range stands(&w) {
		stood, room := inRoom(*s.list(), 77)
		*s.list(), rooms = stood, append(rooms, room)
	}
	var letters []byte
	var pairs []bpe.Pair
	w.Alphabet, letters = inRoom(w.Alphabet, 'z')
	w.Pairs, pairs = inRoom(w.Pairs, bpe.Pair{A: 5, B: 6})
	layers := w.Layers[:cap(w.Layers)]
	rooms = append(rooms, letters, pairs, layers)
	return w, func() string { return fmt.Sprint(w, rooms) }
}

func TestNothingIsWritten(t *testing.T) { // R2
	turns := map[string]func(w *weights.Weights){
		"right":  func(w *weights.Weights) {},
		"number": func(w *weights.Weights) { w.Out.L[0] = 1 << 40 },
		"length": func(w *weights.Weights) { w.Norm = w.Norm[1:] },
		"layers": func(w *weights.Weights) { w.Layers = w.Layers[:2] },
		"tokens": func(w *weights.Weights) { w.Alphabet[1] = w.Alphabet[0] },
	}
	for what, turn := range turns {
		w, stands := roomy(turned(turn))
		before := stands()
		weights.Check(w)
		weights.Leaves(w)
		weights.Root(w)
		weights.Encode(w)
		if stands() != before {
			t.Errorf("%s: written into", what)
		}
	}
	whole := wantEncode(model(middle, 30))
	for _, n := range []int{0, 1, 60, 100, len(whole) / 2, len(whole) - 1, len(whole)} {
		b, room := inRoom(whole[:n], 3)
		kept := slices.Clone(room)
		weights.Parse(b)
		if !bytes.Equal(room, kept) {
			t.Errorf("%d bytes: written into", n)
		}
	}
}

// TestParseReadsNoFurther has the rest of a model stand behind the bytes' length.
func TestParseReadsNoFurther(t *testing.T) { // P10.3, R3
	whole := wantEncode(model(small, 31))
	refuseParse(t, "a byte behind", whole[:len(whole)-1], api.ErrForm)
	refuseParse(t, "a leaf behind", whole[:len(whole)-20], api.ErrForm)
	more := append(slices.Clone(whole), whole...)
	parses(t, "a model behind", more[:len(whole)], model(small, 31))
}

// scribble writes into all that stands in a list, and into what room it has.
func scribble[T any](l []T, x T) {
	l = l[:cap(l)]
	for i := range l {
		l[i] = x
	}
}

// TestParsedKeepsNoBytes turns the bytes that were parsed.
func TestParsedKeepsNoBytes(t *testing.T) { // R2, R3
	for _, c := range someConfigs() {
		b := wantEncode(model(c, 32))
		w, e := weights.Parse(b)
		scribble(b, 1)
		if e != api.OK || !same(w, model(c, 32)) {
			t.Errorf("%v: it still reads what was handed in, %d", c, int(e))
		}
	}
}

// TestLeavesKeepNoModel turns the model whose leaves were told.
func TestLeavesKeepNoModel(t *testing.T) { // R2, R3
	for _, c := range someConfigs() {
		w := model(c, 33)
		leaves, _ := weights.Leaves(w)
		b, _ := weights.Encode(w)
		for _, s := range stands(&w) {
			scribble(*s.list(), 5)
		}
		scribble(w.Alphabet, 'x')
		scribble(w.Pairs, bpe.Pair{A: 8, B: 8})
		scribble(w.Layers, weights.Layer{})
		if !slices.EqualFunc(leaves, wantLeaves(model(c, 33)), bytes.Equal) || !bytes.Equal(b, wantEncode(model(c, 33))) {
			t.Errorf("%v: they still read what was handed in", c)
		}
	}
}

// TestLeavesAreTheCallers turns each leaf, and bytes that were told.
func TestLeavesAreTheCallers(t *testing.T) { // R2, R3
	w := model(middle, 34)
	want := wantLeaves(w)
	for i := range want {
		l, e := weights.Leaves(w)
		if e != api.OK {
			t.Fatal(int(e))
		}
		scribble(l[i], 0xee)
		for j := range l {
			if j != i && !bytes.Equal(l[j], want[j]) {
				t.Fatalf("leaf %d is turned with leaf %d", j, i)
			}
		}
		scribble(l, nil)
		b, _ := weights.Encode(w)
		scribble(b, 0xee)
		if !same(w, model(middle, 34)) {
			t.Fatalf("leaf %d: the model is turned with it", i)
		}
	}
	holds(t, "behind all that", w)
}

// TestParsedIsTheCallers turns each list of a model that was parsed, also behind its length: no other one turns with it.
func TestParsedIsTheCallers(t *testing.T) { // R2, R3
	b := wantEncode(model(middle, 35))
	many := len(stands(&weights.Weights{Layers: make([]weights.Layer, 3)}))
	for i := range many + 3 {
		w, e := weights.Parse(b)
		if e != api.OK {
			t.Fatal(int(e))
		}
		want := model(middle, 35)
		switch i {
		case many:
			scribble(w.Alphabet, 'x')
			scribble(want.Alphabet, 'x')
		case many + 1:
			scribble(w.Pairs, bpe.Pair{A: 8, B: 9})
			scribble(want.Pairs, bpe.Pair{A: 8, B: 9})
		case many + 2:
			scribble(w.Layers, weights.Layer{})
			scribble(want.Layers, weights.Layer{})
		default:
			scribble(*stands(&w)[i].list(), 5)
			scribble(*stands(&want)[i].list(), 5)
		}
		if !same(w, want) {
			t.Errorf("another one turns with the %d-th", i)
		}
	}
	parses(t, "again", b, model(middle, 35))
}

// TestParsedTwice has two models of the same bytes go each for itself.
func TestParsedTwice(t *testing.T) { // R2, R3
	b := wantEncode(model(middle, 36))
	one, _ := weights.Parse(b)
	other, _ := weights.Parse(b)
	for _, s := range stands(&one) {
		scribble(*s.list(), 5)
	}
	scribble(one.Alphabet, 'x')
	scribble(one.Pairs, bpe.Pair{})
	scribble(one.Layers, weights.Layer{})
	if !same(other, model(middle, 36)) {
		t.Error("one is turned with the other")
	}
	holds(t, "the other", other)
}

// TestListsOfNothing: a list without elements may be nil or not.
func TestListsOfNothing(t *testing.T) { // R2
	for _, pairs := range [][]bpe.Pair{nil, {}, make([]bpe.Pair, 0, 4)} {
		w := model(least, 37)
		w.Pairs = pairs
		holds(t, "no pairs", w)
		parses(t, "no pairs", wantEncode(w), model(least, 37))
	}
}

// TestErrorsLeaveNoTrace asks what can't be answered between what can.
func TestErrorsLeaveNoTrace(t *testing.T) { // R1, R3
	w := model(middle, 38)
	b := wantEncode(w)
	for i := range 50 {
		weights.Parse(b[:len(b)-1-i])
		weights.Parse(append(slices.Clone(b), make([]byte, i)...))
		weights.Check(turned(func(w *weights.Weights) { w.Layers[i%3].Up.Rows = i }))
		weights.Encode(turned(func(w *weights.Weights) { w.Layers[i%3].Down.L[0] = 1 << 40 }))
		weights.Leaves(weights.Weights{Config: middle})
		middle.Place(weights.Part{Kind: 13 + i})
		holds(t, "between", w)
		parses(t, "between", b, w)
	}
}

// TestSideBySide has one model be asked at once from many places.
func TestSideBySide(t *testing.T) { // R3
	w := model(middle, 39)
	b, want := wantEncode(w), wantLeaves(w)
	var all sync.WaitGroup
	for range 8 {
		all.Go(func() {
			for i := range 20 {
				if l, e := weights.Leaves(w); e != api.OK || !slices.EqualFunc(l, want, bytes.Equal) {
					t.Errorf("Leaves: %d", int(e))
				}
				if d, e := weights.Root(w); e != api.OK || d != wantRoot(want) {
					t.Errorf("Root: %d", int(e))
				}
				if x, e := weights.Parse(b); e != api.OK || !same(x, w) {
					t.Errorf("Parse: %d", int(e))
				}
				if n, e := w.Config.Place(weights.Part{Kind: weights.Out, Row: i % 7}); e != api.OK || n != 105+i%7 {
					t.Errorf("Place: %d %d", n, int(e))
				}
			}
		})
	}
	all.Wait()
}
