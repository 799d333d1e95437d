package weights_test

import (
	"fmt"
	"math"
	"slices"
	"strings"
	"testing"

	"cupel/api"
	"cupel/bpe"
	"cupel/tensor"
	"cupel/weights"
)

// turned is middle's model, turned.
func turned(turn func(w *weights.Weights)) weights.Weights {
	w := model(middle, 1)
	turn(&w)
	return w
}

// told holds a model, turned, to an error that is told, and the words of oracle_test.go to it, too.
func told(t *testing.T, what string, w weights.Weights, e api.Errno) {
	t.Helper()
	refuse(t, what, w, e)
	if want := wantCheck(w); want != e {
		t.Errorf("%s: %d is wanted, and %d", what, int(e), int(want))
	}
}

func TestModels(t *testing.T) { // P10.2
	for _, w := range some() {
		holds(t, fmt.Sprint(w.Config), w)
	}
	holds(t, "the greatest", model(greatest, 3))
}

func TestNoModel(t *testing.T) { // P10.2, R1
	told(t, "nothing", weights.Weights{}, api.ErrRange)
	told(t, "sizes alone", weights.Weights{Config: least}, api.ErrSize)
	told(t, "no layers", weights.Weights{Config: least, Alphabet: []byte("a")}, api.ErrSize)
	told(t, "no parts", weights.Weights{Config: least, Alphabet: []byte("a"), Layers: make([]weights.Layer, 1)}, api.ErrSize)
}

func TestModelOfWrongSizes(t *testing.T) { // P10.1, P10.2
	for i, s := range sizesOf(&weights.Config{}) {
		for _, n := range append(farNumbers(), s.least-1, s.most+1) {
			if n >= s.least && n <= s.most {
				continue
			}
			w := model(middle, 2)
			*sizesOf(&w.Config)[i].n = n
			told(t, fmt.Sprint("sizes ", w.Config), w, api.ErrRange)
		}
	}
	for _, heads := range []int{3, 4, 8} {
		w := model(middle, 2)
		w.Config.Heads = heads
		told(t, "heads", w, api.ErrSize)
	}
}

// TestSizesThatLeaveTheLeaves: of Heads and Ctx nothing else hangs than the first leaf.
func TestSizesThatLeaveTheLeaves(t *testing.T) { // P10.2
	for _, heads := range []int{1, 2} {
		for _, ctx := range []int{1, 2, 9, 64} {
			w := model(middle, 2)
			w.Config.Heads, w.Config.Ctx = heads, ctx
			holds(t, fmt.Sprint(w.Config), w)
		}
	}
}

// TestModelOfOtherSizes has each size be one that may be, but is not that of the model.
func TestModelOfOtherSizes(t *testing.T) { // P10.2
	for _, w := range some() {
		for i, s := range sizesOf(&weights.Config{}) {
			if i == 2 || i == 4 {
				continue // Heads and Ctx
			}
			right := *sizesOf(&w.Config)[i].n
			for _, n := range []int{right - 1, right + 1, right + 2*w.Config.Heads, right - 2*w.Config.Heads, s.least, s.most} {
				x := w
				*sizesOf(&x.Config)[i].n = n
				if n == right || wantConfig(x.Config) != api.OK {
					continue
				}
				told(t, fmt.Sprint("sizes ", x.Config, " of ", w.Config), x, api.ErrSize)
			}
		}
	}
}

// wrongTokens is turns of middle's model to tokens that a coder has an error of.
func wrongTokens() map[string]wrong {
	pair := func(a, b int) bpe.Pair { return bpe.Pair{A: a, B: b} }
	return map[string]wrong{
		"no alphabet":           {func(w *weights.Weights) { w.Alphabet = nil }, api.ErrSize},
		"no tokens":             {func(w *weights.Weights) { w.Alphabet, w.Pairs = nil, nil }, api.ErrSize},
		"513 tokens":            {func(w *weights.Weights) { w.Pairs = make([]bpe.Pair, 509) }, api.ErrSize},
		"a byte twice":          {func(w *weights.Weights) { w.Alphabet = []byte("abca") }, api.ErrThere},
		"a pair twice":          {func(w *weights.Weights) { w.Pairs = []bpe.Pair{pair(0, 1), pair(1, 0), pair(0, 1)} }, api.ErrThere},
		"a pair of itself":      {func(w *weights.Weights) { w.Pairs = []bpe.Pair{pair(0, 1), pair(1, 0), pair(6, 0)} }, api.ErrRange},
		"a pair below 0":        {func(w *weights.Weights) { w.Pairs[0] = pair(-1, 0) }, api.ErrRange},
		"a pair of the least":   {func(w *weights.Weights) { w.Pairs[2] = pair(0, math.MinInt) }, api.ErrRange},
		"a pair beyond":         {func(w *weights.Weights) { w.Pairs[2] = pair(0, math.MaxInt) }, api.ErrRange},
		"a long text":           {func(w *weights.Weights) { w.Alphabet, w.Pairs = []byte("ab"), doubled() }, api.ErrLong},
		"a byte twice, of many": {func(w *weights.Weights) { w.Alphabet = []byte(strings.Repeat("ab", 250)) }, api.ErrThere},
	}
}

// wrong is a turn of a model, and the error of it.
type wrong struct {
	turn func(w *weights.Weights)
	e    api.Errno
}

// doubled is pairs of an alphabet of two bytes, the last one of which has a text of 32 bytes.
func doubled() []bpe.Pair {
	l := []bpe.Pair{{A: 0, B: 1}}
	for i := range 4 {
		l = append(l, bpe.Pair{A: i + 2, B: i + 2})
	}
	return l
}

func TestWrongTokens(t *testing.T) { // P10.2
	for what, x := range wrongTokens() {
		told(t, what, turned(x.turn), x.e)
	}
}

func TestTokensOtherThanVocab(t *testing.T) { // P10.2
	for what, turn := range map[string]func(w *weights.Weights){
		"one pair fewer":  func(w *weights.Weights) { w.Pairs = w.Pairs[:2] },
		"no pairs":        func(w *weights.Weights) { w.Pairs = nil },
		"one pair more":   func(w *weights.Weights) { w.Pairs = append(w.Pairs, bpe.Pair{A: 3, B: 3}) },
		"one byte fewer":  func(w *weights.Weights) { w.Alphabet, w.Pairs = []byte("abc"), w.Pairs[:3] },
		"one byte more":   func(w *weights.Weights) { w.Alphabet = append(w.Alphabet, 'z') },
		"one byte alone":  func(w *weights.Weights) { w.Alphabet, w.Pairs = []byte("a"), nil },
		"bytes of pairs":  func(w *weights.Weights) { w.Alphabet, w.Pairs = []byte("abcdefgh"), nil },
		"the most tokens": func(w *weights.Weights) { w.Alphabet, w.Pairs = tokens(512) },
	} {
		told(t, what, turned(turn), api.ErrSize)
	}
	// As many tokens, of other bytes and pairs, are right.
	holds(t, "bytes alone", turned(func(w *weights.Weights) { w.Alphabet, w.Pairs = []byte("abcdefg"), nil }))
	holds(t, "one byte", turned(func(w *weights.Weights) {
		w.Alphabet = []byte{0}
		w.Pairs = []bpe.Pair{{A: 0, B: 0}, {A: 1, B: 1}, {A: 2, B: 2}, {A: 3, B: 3}, {A: 0, B: 1}, {A: 1, B: 0}}
	}))
}

func TestLayersOtherThanTold(t *testing.T) { // P10.2
	for many := range 7 {
		w := turned(func(w *weights.Weights) {
			w.Layers = slices.Concat(w.Layers, w.Layers, w.Layers)[:many]
		})
		if many == 3 {
			holds(t, "as many", w)
			continue
		}
		told(t, fmt.Sprint(many, " layers"), w, api.ErrSize)
	}
	// An odd one behind those that are told is not looked at, nor is it left out.
	told(t, "an empty one more", turned(func(w *weights.Weights) { w.Layers = append(w.Layers, weights.Layer{}) }), api.ErrSize)
	told(t, "nil", turned(func(w *weights.Weights) { w.Layers = nil }), api.ErrSize)
	told(t, "an empty one", turned(func(w *weights.Weights) { w.Layers[2] = weights.Layer{} }), api.ErrSize)
}

// wrongStand is turns of a vector or a matrix to what it may not be.
func wrongStand(is stand) map[string]wrongOf {
	least, most := is.edges()
	l := map[string]wrongOf{
		"nil":              {func(s stand) { *s.list() = nil }, api.ErrSize},
		"one less":         {func(s stand) { *s.list() = (*s.list())[1:] }, api.ErrSize},
		"one more":         {func(s stand) { *s.list() = append(*s.list(), 1) }, api.ErrSize},
		"a row less":       {func(s stand) { *s.list() = (*s.list())[:len(*s.list())-s.cols] }, api.ErrSize},
		"a row more":       {func(s stand) { *s.list() = append(*s.list(), (*s.list())[:s.cols]...) }, api.ErrSize},
		"513":              {func(s stand) { *s.list() = make([]int, 513) }, api.ErrSize},
		"the least":        {func(s stand) { (*s.list())[0] = least - 1 }, api.ErrRange},
		"the greatest":     {func(s stand) { (*s.list())[len(*s.list())-1] = most + 1 }, api.ErrRange},
		"the least int":    {func(s stand) { (*s.list())[len(*s.list())/2] = math.MinInt }, api.ErrRange},
		"the greatest int": {func(s stand) { (*s.list())[0] = math.MaxInt }, api.ErrRange},
		"both":             {func(s stand) { *s.list() = append((*s.list())[1:], math.MaxInt, math.MinInt) }, api.ErrSize},
	}
	if is.matrix == nil {
		return l
	}
	for _, n := range append(farNumbers(), 0, is.rows-1, is.rows+1, is.cols, 2*is.rows) {
		if n != is.rows {
			l[fmt.Sprint(n, " rows")] = wrongOf{func(s stand) { s.matrix.Rows = n }, api.ErrSize}
			l[fmt.Sprint(n, " rows, and numbers")] = wrongOf{func(s stand) { s.matrix.Rows, s.matrix.L[0] = n, math.MinInt }, api.ErrSize}
		}
	}
	for _, n := range append(farNumbers(), 0, is.cols-1, is.cols+1, is.rows, 2*is.cols) {
		if n != is.cols {
			l[fmt.Sprint(n, " cols")] = wrongOf{func(s stand) { s.matrix.Cols = n }, api.ErrSize}
			l[fmt.Sprint(n, " cols, and numbers")] = wrongOf{func(s stand) { s.matrix.Cols, s.matrix.L[0] = n, most+1 }, api.ErrSize}
		}
	}
	// These are matrices of their own, but not those that are told.
	whole := func(s stand, rows, cols int) { *s.matrix = noughts(rows, cols) }
	l["a row more, whole"] = wrongOf{func(s stand) { whole(s, s.rows+1, s.cols) }, api.ErrSize}
	l["a column more, whole"] = wrongOf{func(s stand) { whole(s, s.rows, s.cols+1) }, api.ErrSize}
	l["a column less, whole"] = wrongOf{func(s stand) { whole(s, s.rows, s.cols-1) }, api.ErrSize}
	if is.rows != 1 {
		l["one row, whole"] = wrongOf{func(s stand) { whole(s, 1, s.rows*s.cols) }, api.ErrSize}
	}
	if is.rows != is.cols {
		l["on its side"] = wrongOf{func(s stand) { whole(s, s.cols, s.rows) }, api.ErrSize}
	}
	return l
}

type wrongOf struct {
	turn func(s stand)
	e    api.Errno
}

// noughts is a matrix of noughts.
func noughts(rows, cols int) tensor.Matrix {
	return tensor.Matrix{Rows: rows, Cols: cols, L: make([]int, rows*cols)}
}

// TestWrongParts turns each vector and matrix of some models in turn to all that it may not be.
func TestWrongParts(t *testing.T) { // P10.2
	for _, c := range []weights.Config{small, middle} {
		base := model(c, 5)
		for i, s := range stands(&base) {
			for what, x := range wrongStand(s) {
				w := model(c, 5)
				x.turn(stands(&w)[i])
				told(t, fmt.Sprintf("%s, of the %d-th one of %v", what, i, c), w, x.e)
			}
		}
	}
}

// TestEdgesOfNumbers: matrices are of weights, vectors of any numbers.
func TestEdgesOfNumbers(t *testing.T) { // P10.2
	base := model(middle, 6)
	for i, s := range stands(&base) {
		least, most := s.edges()
		for _, n := range []int{0, 1, -1, least, least + 1, most, most - 1, least - 1, most + 1, 2 * least, 2 * most, -maxWeight - 1, maxWeight + 1, math.MinInt, math.MaxInt} {
			for _, at := range []int{0, s.cols - 1, len(*s.list()) - 1} {
				w := model(middle, 6)
				(*stands(&w)[i].list())[at] = n
				what := fmt.Sprintf("%d at %d of the %d-th", n, at, i)
				if n < least || n > most {
					told(t, what, w, api.ErrRange)
				} else if e := weights.Check(w); e != api.OK {
					t.Errorf("%s: %d", what, int(e))
				}
			}
		}
	}
}

// TestWhichErrorOfHead has more than one thing be wrong: sizes, then tokens, then their number and layers, then parts.
func TestWhichErrorOfHead(t *testing.T) { // P10.2, R1
	type turn = func(w *weights.Weights)
	size := func(w *weights.Weights) { w.Config.Dim = 3 }
	number := func(w *weights.Weights) { w.Config.Ctx = 0 }
	there := func(w *weights.Weights) { w.Alphabet[1] = w.Alphabet[0] }
	beyond := func(w *weights.Weights) { w.Pairs[0].A = 4 }
	fewer := func(w *weights.Weights) { w.Pairs = w.Pairs[:2] }
	layers := func(w *weights.Weights) { w.Layers = w.Layers[:2] }
	weight := func(w *weights.Weights) { w.Embed.L[0] = maxWeight + 1 }
	rows := func(w *weights.Weights) { w.Embed.Rows = 6 }
	for i, c := range []struct {
		l []turn
		e api.Errno
	}{
		{[]turn{size, there}, api.ErrSize}, {[]turn{size, beyond}, api.ErrSize}, {[]turn{size, number, there, layers}, api.ErrRange}, {[]turn{number, there}, api.ErrRange}, {[]turn{number, fewer}, api.ErrRange}, {[]turn{number, layers, rows}, api.ErrRange}, {[]turn{size, weight}, api.ErrSize},
		{[]turn{there, layers}, api.ErrThere}, {[]turn{there, fewer}, api.ErrThere}, {[]turn{beyond, layers}, api.ErrRange}, {[]turn{beyond, fewer}, api.ErrRange}, {[]turn{there, weight}, api.ErrThere}, {[]turn{there, rows}, api.ErrThere}, {[]turn{beyond, rows}, api.ErrRange}, {[]turn{there, beyond}, api.ErrThere},
		{[]turn{layers, weight}, api.ErrSize}, {[]turn{fewer, weight}, api.ErrSize}, {[]turn{fewer, layers}, api.ErrSize}, {[]turn{weight, rows}, api.ErrSize},
	} {
		told(t, fmt.Sprint("the ", i, "-th"), turned(func(w *weights.Weights) {
			for _, turn := range c.l {
				turn(w)
			}
		}), c.e)
	}
}

// TestWhichErrorOfParts has two parts be wrong: the first one's error is told.
func TestWhichErrorOfParts(t *testing.T) { // P10.2, R1
	number := func(s stand) { (*s.list())[len(*s.list())-1] = 1 << 31 }
	size := func(s stand) { *s.list() = (*s.list())[1:] }
	whole := func(s stand) {
		if s.matrix != nil {
			s.matrix.Cols++
		} else {
			size(s)
		}
	}
	base := model(middle, 7)
	for j := range stands(&base) {
		for i := range j {
			for k, c := range []struct {
				first, later func(s stand)
				e            api.Errno
			}{{number, size, api.ErrRange}, {number, whole, api.ErrRange}, {size, number, api.ErrSize}, {whole, number, api.ErrSize}} {
				w := model(middle, 7)
				c.first(stands(&w)[i])
				c.later(stands(&w)[j])
				told(t, fmt.Sprintf("%d: %d and %d", k, i, j), w, c.e)
			}
		}
	}
}

func FuzzCheck(f *testing.F) { // P10.1, P10.2, R1
	f.Add(uint64(1), 3, 2, 1, 1, 1, 0, 0, 0)
	f.Add(uint64(2), 7, 4, 2, 3, 5, 3, 1<<24, 0)
	f.Add(uint64(3), 7, 4, 2, 3, 5, 3, 1<<24+1, 1)
	f.Add(uint64(4), 1, 2, 1, 1, 1, 9, -1<<31, -1)
	f.Fuzz(func(t *testing.T, seed uint64, vocab, dim, heads, layers, hidden, at, n, more int) {
		c := weights.Config{Vocab: vocab % 20, Dim: dim % 20, Heads: heads % 9, Layers: layers % 5, Ctx: 64, Hidden: hidden % 20}
		if e := wantConfig(c); e != api.OK {
			refuse(t, "sizes", weights.Weights{Config: c, Alphabet: []byte("aa")}, e)
			return
		}
		w := model(c, seed)
		holds(t, "as made", w)
		all := stands(&w)
		s := all[uint(at)%uint(len(all))]
		(*s.list())[uint(more)%uint(len(*s.list()))] = n
		if s.matrix != nil {
			s.matrix.Rows += more % 2
			s.matrix.Cols -= more % 3 / 2
		}
		if e := wantCheck(w); e != api.OK {
			refuse(t, "turned", w, e)
		} else {
			holds(t, "turned", w)
		}
	})
}
