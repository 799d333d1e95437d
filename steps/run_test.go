package steps_test

import (
	"crypto/sha256"
	"encoding/binary"
	"encoding/hex"
	"math"
	"slices"
	"testing"

	"cupel/api"
	"cupel/model"
	"cupel/steps"
	"cupel/tensor"
	"cupel/weights"
)

func TestBeginTold(t *testing.T) { // P12.4
	cells, e := example().Begin([]int{2})
	two := []int{0, 0}
	if want := [][]int{{0, 2, -1}, two, two, two, two, two, two, {0}, two, two, two, {0, 0, 0}, two, two}; !same(cells, want) || e != api.OK {
		t.Error(cells, int(e))
	}
	cells, e = right().Begin([]int{6, 0, 1})
	if !slices.Equal(cells[0], []int{0, 6, 0, 1, -1, -1, -1, -1, -1}) || e != api.OK {
		t.Error(cells[0], int(e))
	}
	for _, p := range somePlans() {
		prompt := everyThird(p.Prompt, p.Config.Vocab)
		if cells, e := p.Begin(prompt); !same(cells, boardOf(p).tellBegin(prompt)) || e != api.OK {
			t.Errorf("%v: %v %d", p, cells, int(e))
		}
	}
}

// same tells whether cells are the same; one of nothing is so, whether it is nil or not.
func same(a, b [][]int) bool { return slices.EqualFunc(a, b, slices.Equal[[]int]) }

func TestBeginWrong(t *testing.T) { // P12.4, R1
	p := right()
	for _, x := range []struct {
		what   string
		prompt []int
		e      api.Errno
	}{
		{"right", []int{0, 6, 1}, api.OK}, {"nothing", nil, api.ErrSize}, {"of none", []int{}, api.ErrSize}, {"one fewer", []int{0, 6}, api.ErrSize}, {"one more", []int{0, 6, 1, 0}, api.ErrSize},
		{"up to Ctx", make([]int, 9), api.ErrSize}, {"as many as Tokens", make([]int, 8), api.ErrSize}, {"many", make([]int, 1000), api.ErrSize},
		{"-1 first", []int{-1, 6, 1}, api.ErrRange}, {"-1 last", []int{0, 6, -1}, api.ErrRange}, {"Vocab first", []int{7, 6, 1}, api.ErrRange}, {"Vocab last", []int{0, 6, 7}, api.ErrRange},
		{"the least", []int{0, math.MinInt, 0}, api.ErrRange}, {"the greatest", []int{0, math.MaxInt, 0}, api.ErrRange}, {"one fewer, and -1", []int{0, -1}, api.ErrSize}, {"one more, and Vocab", []int{7, 0, 0, 0}, api.ErrSize},
	} {
		want := 0
		if x.e == api.OK {
			want = p.Cells()
		}
		if cells, e := p.Begin(x.prompt); len(cells) != want || e != x.e {
			t.Errorf("%s: %v %d, not %d", x.what, cells, int(e), int(x.e))
		}
		w := made(middle, 1, one)
		if cells, n, e := steps.Run(w, p, model.Ask{Prompt: x.prompt, K: 3, Limit: 5}); len(cells) != want || n > 0 != (x.e == api.OK) || e != x.e {
			t.Errorf("%s: Run: %v %d %d, not %d", x.what, cells, n, int(e), int(x.e))
		}
	}
}

// TestRowOfAny has all parts of a model.
func TestRowOfAny(t *testing.T) { // P12.4
	for _, p := range somePlans() {
		w := made(p.Config, 2, maxWeight)
		parts := 1
		for kind := weights.Embed; kind <= weights.Out; kind++ {
			for layer := range p.Config.Layers {
				if layer > 0 && (kind == weights.Embed || kind == weights.Norm || kind == weights.Out) {
					continue
				}
				for row, want := range rows(w, kind, layer) {
					if l, e := steps.Row(w, weights.Part{Kind: kind, Layer: layer, Row: row}); !slices.Equal(l, want) || e != api.OK {
						t.Errorf("%v: %d, layer %d, row %d: %v %d, not %v", p.Config, kind, layer, row, l, int(e), want)
					}
					parts++
				}
			}
		}
		if many, _ := p.Config.Many(); parts != many {
			t.Errorf("%v: %d parts, not %d", p.Config, parts, many)
		}
	}
}

// TestRowWrong has parts that the model does not have.
func TestRowWrong(t *testing.T) { // P12.4, R1
	w := made(middle, 3, one)
	many := map[int]int{
		weights.Embed: 7, weights.Norm1: 1, weights.Query: 4, weights.Key: 4, weights.Value: 4, weights.Output: 4, weights.Norm2: 1,
		weights.Gate: 5, weights.Up: 5, weights.Down: 4, weights.Norm: 1, weights.Out: 7,
	}
	refuse := func(x weights.Part) {
		t.Helper()
		if l, e := steps.Row(w, x); len(l) != 0 || e != api.ErrRange {
			t.Errorf("%v: %v %d", x, l, int(e))
		}
	}
	for kind, n := range many {
		layers := 3
		if kind == weights.Embed || kind == weights.Norm || kind == weights.Out {
			layers = 1
		}
		if l, e := steps.Row(w, weights.Part{Kind: kind, Layer: layers - 1, Row: n - 1}); len(l) == 0 || e != api.OK {
			t.Errorf("%d: %v %d", kind, l, int(e))
		}
		for _, far := range append(farInts(), n, n+1) {
			refuse(weights.Part{Kind: kind, Row: far})
			refuse(weights.Part{Kind: kind, Layer: layers - 1, Row: far})
		}
		for _, far := range append(farInts(), layers, layers+1) {
			refuse(weights.Part{Kind: kind, Layer: far})
		}
	}
	for _, far := range append(farInts(), 0, 13, 14) {
		refuse(weights.Part{Kind: far})
		refuse(weights.Part{Kind: far, Layer: 1, Row: 1})
	}
}

// TestRowOfWrongModels has models that have not all that their sizes tell.
func TestRowOfWrongModels(t *testing.T) { // P12.4, R1
	matrices := map[int]func(w *weights.Weights) *tensor.Matrix{
		weights.Embed: func(w *weights.Weights) *tensor.Matrix { return &w.Embed }, weights.Query: func(w *weights.Weights) *tensor.Matrix { return &w.Layers[2].Query },
		weights.Key: func(w *weights.Weights) *tensor.Matrix { return &w.Layers[2].Key }, weights.Value: func(w *weights.Weights) *tensor.Matrix { return &w.Layers[2].Value },
		weights.Output: func(w *weights.Weights) *tensor.Matrix { return &w.Layers[2].Output }, weights.Gate: func(w *weights.Weights) *tensor.Matrix { return &w.Layers[2].Gate },
		weights.Up: func(w *weights.Weights) *tensor.Matrix { return &w.Layers[2].Up }, weights.Down: func(w *weights.Weights) *tensor.Matrix { return &w.Layers[2].Down },
		weights.Out: func(w *weights.Weights) *tensor.Matrix { return &w.Out },
	}
	vectors := map[int]func(w *weights.Weights) *[]int{
		weights.Norm1: func(w *weights.Weights) *[]int { return &w.Layers[2].Norm1 }, weights.Norm2: func(w *weights.Weights) *[]int { return &w.Layers[2].Norm2 },
		weights.Norm: func(w *weights.Weights) *[]int { return &w.Norm },
	}
	part := func(kind, row int) weights.Part {
		layer := 2
		if kind == weights.Embed || kind == weights.Norm || kind == weights.Out {
			layer = 0
		}
		return weights.Part{Kind: kind, Layer: layer, Row: row}
	}
	refuse := func(what string, w weights.Weights, x weights.Part) {
		t.Helper()
		if l, e := steps.Row(w, x); len(l) != 0 || e != api.ErrRange {
			t.Errorf("%s: %v: %v %d", what, x, l, int(e))
		}
	}
	for kind, of := range matrices {
		for _, rows := range []int{0, 3, -1, math.MinInt} {
			w := made(middle, 4, one)
			of(&w).Rows = rows
			refuse("rows", w, part(kind, 3))
		}
		for _, cols := range append(farInts(), 0, 100) {
			w := made(middle, 4, one)
			of(&w).Cols = cols
			refuse("columns", w, part(kind, 3))
		}
		for _, l := range [][]int{nil, {}, {1}, make([]int, 15)} {
			w := made(middle, 4, one)
			of(&w).L = l
			refuse("numbers", w, part(kind, 3))
		}
		// What else the model has makes no difference.
		w := made(middle, 4, one)
		want, _ := steps.Row(w, part(kind, 2))
		w.Alphabet, w.Pairs = nil, nil
		of(&w).L[0] = maxWeight + 1
		if l, e := steps.Row(w, part(kind, 2)); !slices.Equal(l, want) || e != api.OK {
			t.Errorf("%d: %v %d, not %v", kind, l, int(e), want)
		}
	}
	for kind, of := range vectors {
		w := made(middle, 4, one)
		*of(&w) = nil
		refuse("no vector", w, part(kind, 0))
	}
	for kind := weights.Norm1; kind <= weights.Down; kind++ {
		w := made(middle, 4, one)
		w.Layers = w.Layers[:2]
		refuse("a layer too few", w, part(kind, 0))
		w.Layers = nil
		refuse("no layers", w, weights.Part{Kind: kind})
	}
	for _, x := range noPlans() {
		w := made(middle, 4, one)
		if w.Config = x.Config; w.Config.Check() == api.OK {
			continue
		}
		for kind := range 14 {
			refuse("no sizes", w, weights.Part{Kind: kind})
		}
	}
}

// digest is the beginning of a digest of numbers.
func digest(l ...[]int) string {
	h := sha256.New()
	for _, v := range l {
		for _, n := range v {
			h.Write(binary.BigEndian.AppendUint64(nil, uint64(n)))
		}
	}
	return hex.EncodeToString(h.Sum(nil)[:8])
}

// walk does the steps one by one, by the calls of each, and looks at each step behind it.
func walk(t *testing.T, w weights.Weights, p steps.Plan, a model.Ask, look func(s steps.Step, cells [][]int)) [][]int {
	t.Helper()
	cells, e := p.Begin(a.Prompt)
	for s := range p.Steps() {
		reads := pieces(cells, p.Reads(s))
		var weight []int
		if x, has := p.Part(s, reads); has {
			if weight, e = steps.Row(w, x); e != api.OK {
				t.Fatalf("%v, %v: Row %v: %d", p, s, x, int(e))
			}
		}
		if cells[p.Writes(s)], e = p.Do(s, reads, weight, a.Seed); e != api.OK {
			t.Fatalf("%v, %v: Do: %d", p, s, int(e))
		}
		look(s, cells)
	}
	return cells
}

// TestRunTold has digests of what another program has worked out: of each step and the cell that it wrote, and of all cells in the end.
func TestRunTold(t *testing.T) { // P12.4, P12.5
	for _, x := range []struct {
		c           weights.Config
		number      uint64
		span        int
		prompt      int
		seed        byte
		k           int
		many, count int
		l           []int
		each, last  string
	}{
		{small, 1, 2 * one, 2, 0, 1, 272, 0, []int{3, 2, 3, 2, 3, 4}, "208bdb350615addd", "9458b1e943cb57bb"},
		{small, 1, 2 * one, 2, 1, 5, 272, 6, []int{2, 3, 2, 3, 1, 1}, "1a1dc412152dfa99", "236dfcfa366e40d1"},
		{small, 1, 2 * one, 7, 1, 5, 267, 1, []int{3}, "e59746db32de3764", "f33d95c45ddb2ea7"},
		{small, 1, 2 * one, 1, 3, 2, 273, 7, []int{2, 1, 2, 2, 2, 4, 2}, "6a53fb3416af9d6e", "60b4ec461d1fd25d"},
		{middle, 2, 2 * one, 2, 0, 1, 1327, 0, []int{0, 2, 4, 0, 0, 0, 0}, "642ca517ecea8ef0", "261d8fe46637918e"},
		{middle, 2, 2 * one, 2, 1, 7, 1327, 7, []int{4, 0, 1, 6, 5, 2, 0}, "ac5f60bc2075980c", "215790afe0ccbd3b"},
		{middle, 2, 2 * one, 8, 1, 7, 1321, 1, []int{4}, "eff0278c0ab3bcde", "e51bcfc378b4728f"},
		{middle, 2, 2 * one, 1, 1, 3, 1328, 8, []int{1, 2, 4, 0, 2, 6, 3, 0}, "57acab0d36b7573b", "e5ad4af0c20fca52"},
		{least, 6, 3 * one, 1, 0, 1, 28, 0, []int{0}, "f94719695df40222", "fe092223dba9cbe5"},
		{wide, 3, one, 3, 0, 2, 2959, 7, []int{5, 0, 2, 2, 10, 3, 9}, "02307f0c8619bf50", "3fb04ca6d6133597"},
		{wide, 3, one, 3, 1, 12, 2959, 7, []int{0, 11, 3, 2, 5, 5, 10}, "0dae822522224700", "b8cd07f8703012eb"},
		{deep, 4, one, 5, 0, 2, 12025, 19, []int{3, 3, 3, 3, 3, 2, 19, 2, 2, 11, 2, 19, 11, 2, 1, 2, 13, 8, 8}, "9e3b8159d9c0d5e8", "a23d1f66260c0d9d"},
		{deep, 4, one, 5, 1, 20, 12025, 19, []int{8, 7, 10, 19, 1, 15, 3, 7, 1, 18, 18, 5, 16, 0, 13, 18, 6, 6, 8}, "df6979223665c44a", "dd1c430047bb4002"},
		{long, 7, 2 * one, 60, 0, 2, 10021, 4, []int{2, 2, 2, 2}, "0434aee05001cc23", "514da2e6762389e1"},
		{thick, 8, one / 2, 2, 1, 33, 1989, 3, []int{7, 27, 19}, "4bc878a5b2fc1473", "4e80be8dce697c24"},
		{weights.Config{Vocab: 4, Dim: 4, Heads: 1, Layers: 4, Ctx: 4, Hidden: 4}, 10, one, 3, 1, 4, 511, 1, []int{2}, "68fc617de3c4f753", "bea6f844dab895f2"},
		{weights.Config{Vocab: 9, Dim: 10, Heads: 5, Layers: 1, Ctx: 6, Hidden: 9}, 9, 3 * one / 2, 3, 2, 4, 568, 3, []int{6, 3, 5}, "2044dd0ae72916c0", "f3a64a2032c8258a"},
		{most, 5, one / 4, 2, 2, 3, 12514, 4, []int{160, 9, 347, 335}, "1b353e569bf57301", "2d2c9c7642ee3057"},
	} {
		w := made(x.c, x.number, x.span)
		a := model.Ask{Prompt: everyThird(x.prompt, x.c.Vocab), Seed: seedOf(x.seed), K: x.k, Limit: len(x.l)}
		p := steps.Plan{Config: x.c, Prompt: x.prompt, Limit: len(x.l), K: x.k}
		cells, n, e := steps.Run(w, p, a)
		if n != x.many || e != api.OK || digest(cells...) != x.last {
			t.Fatalf("%v: %d steps %d, %s, not %d, %s", p, n, int(e), digest(cells...), x.many, x.last)
		}
		if tokens := slices.Concat([]int{x.count}, a.Prompt, x.l); !slices.Equal(cells[steps.Tokens], tokens) {
			t.Errorf("%v: %v, not %v", p, cells[steps.Tokens], tokens)
		}
		var all [][]int
		walked := walk(t, w, p, a, func(s steps.Step, cells [][]int) {
			all = append(all, []int{s.Kind, s.At, s.Layer, s.Head, s.Row, p.Writes(s)}, cells[p.Writes(s)])
		})
		if digest(all...) != x.each || !same(walked, cells) {
			t.Errorf("%v: %s, not %s; the cells in the end are the same: %v", p, digest(all...), x.each, same(walked, cells))
		}
	}
}

// TestRunIsForward has keys, values and the numbers of tokens be those of model.Forward.
func TestRunIsForward(t *testing.T) { // P12.5
	for i, p := range somePlans() {
		w := made(p.Config, uint64(i), one)
		a := model.Ask{Prompt: everyThird(p.Prompt, p.Config.Vocab), Seed: seedOf(byte(i)), K: p.K, Limit: p.Limit}
		past := model.Empty(p.Config)
		b := boardOf(p)
		walk(t, w, p, a, func(s steps.Step, cells [][]int) {
			if s.Kind != steps.OutRow || s.Row < p.Config.Vocab-1 {
				return
			}
			l, next, e := model.Forward(w, cells[steps.Tokens][1+s.At], past)
			if !slices.Equal(cells[steps.L], l) || e != api.OK {
				t.Fatalf("%v at %d: %v, not %v %d", p, s.At, cells[steps.L], l, int(e))
			}
			past = next
			for layer, y := range past.Layers {
				if !same(pieces(cells, b.keys[layer][:s.At+1]), y.Keys) || !same(pieces(cells, b.vals[layer][:s.At+1]), y.Values) {
					t.Fatalf("%v at %d: other keys or values of layer %d", p, s.At, layer)
				}
			}
		})
	}
}

// TestRunIsComplete has asks of all kinds, those that may not be, too, each with a plan of its own.
func TestRunIsComplete(t *testing.T) { // P12.5, R1
	chance := newChance(20)
	errors := map[api.Errno]int{}
	for range 400 {
		p := somePlans()[chance.IntN(len(somePlans()))]
		w := made(p.Config, uint64(chance.IntN(5)), []int{one / 8, one, 2 * one, maxWeight}[chance.IntN(4)])
		a := model.Ask{Prompt: make([]int, chance.IntN(5)), Seed: seedOf(byte(chance.IntN(256))), K: p.K, Limit: chance.IntN(6)}
		for i := range a.Prompt {
			a.Prompt[i] = chance.IntN(p.Config.Vocab)
		}
		switch chance.IntN(12) {
		case 0:
			a.K = chance.IntN(p.Config.Vocab + 2)
		case 1:
			a.Limit = farInts()[chance.IntN(len(farInts()))]
		case 2:
			a.Prompt = append(a.Prompt, []int{-1, p.Config.Vocab}[chance.IntN(2)])
		case 3:
			w.Config.Ctx = 0
		}
		want, wrong := model.Complete(w, a)
		p = steps.Plan{Config: w.Config, Prompt: len(a.Prompt), Limit: a.Limit, K: a.K}
		// Complete has no error of numbers behind a token that stops it; Run does not look at Stop.
		a.Stop = []int{chance.IntN(p.Config.Vocab), chance.IntN(p.Config.Vocab)}
		cells, n, e := steps.Run(w, p, a)
		errors[e]++
		if e != wrong {
			t.Fatalf("%v, %v: %d, not %d", p, a, int(e), int(wrong))
		}
		if e == api.OK && (n != p.Many() || !slices.Equal(cells[steps.Tokens][1:], slices.Concat(a.Prompt, want))) {
			t.Fatalf("%v, %v: %v, not %v; %d steps", p, a, cells[steps.Tokens], want, n)
		}
	}
	for _, e := range []api.Errno{api.OK, api.ErrOver, api.ErrRange, api.ErrSize, api.ErrLong} {
		if errors[e] < 5 {
			t.Error(errors)
		}
	}
}

// TestRunOfTheGreatest fills the greatest model there may be.
func TestRunOfTheGreatest(t *testing.T) { // P12.5
	w := made(most, 5, one/4)
	a := model.Ask{Prompt: []int{1, 4}, Seed: seedOf(2), K: 3, Limit: 62}
	p := steps.Plan{Config: most, Prompt: 2, Limit: 62, K: 3}
	want, wrong := model.Complete(w, a)
	cells, n, e := steps.Run(w, p, a)
	if n != 216152 || e != api.OK || wrong != api.OK || !slices.Equal(cells[steps.Tokens], slices.Concat([]int{62}, a.Prompt, want)) {
		t.Errorf("%d %d: %v, not %v", n, int(e), cells[steps.Tokens], want)
	}
}

// TestRunWrong has a model, a plan and an ask that do not go together, two at once, too.
func TestRunWrong(t *testing.T) { // P12.4, R1
	for _, x := range []struct {
		what string
		turn func(w *weights.Weights, p *steps.Plan, a *model.Ask)
		e    api.Errno
	}{
		{"right", func(w *weights.Weights, p *steps.Plan, a *model.Ask) {}, api.OK},
		{"no model", func(w *weights.Weights, p *steps.Plan, a *model.Ask) { *w = weights.Weights{} }, api.ErrRange},
		{"no model, and a plan of none", func(w *weights.Weights, p *steps.Plan, a *model.Ask) { *w, *p = weights.Weights{}, steps.Plan{} }, api.ErrRange},
		{"a layer too few", func(w *weights.Weights, p *steps.Plan, a *model.Ask) { w.Layers = w.Layers[1:] }, api.ErrSize},
		{"what is no weight", func(w *weights.Weights, p *steps.Plan, a *model.Ask) { w.Out.L[27] = maxWeight + 1 }, api.ErrRange},
		{"what is no weight, and another Limit", func(w *weights.Weights, p *steps.Plan, a *model.Ask) { w.Out.L[27], p.Limit = maxWeight+1, 4 }, api.ErrRange},
		{"a byte twice, and another K", func(w *weights.Weights, p *steps.Plan, a *model.Ask) { w.Alphabet[1], p.K = w.Alphabet[0], 4 }, api.ErrThere},
		{"another Vocab", func(w *weights.Weights, p *steps.Plan, a *model.Ask) { p.Config.Vocab = 8 }, api.ErrForm},
		{"another Ctx", func(w *weights.Weights, p *steps.Plan, a *model.Ask) { p.Config.Ctx = 10 }, api.ErrForm},
		{"other heads", func(w *weights.Weights, p *steps.Plan, a *model.Ask) { p.Config.Heads = 1 }, api.ErrForm},
		{"other layers", func(w *weights.Weights, p *steps.Plan, a *model.Ask) { p.Config.Layers = 2 }, api.ErrForm},
		{"another Hidden", func(w *weights.Weights, p *steps.Plan, a *model.Ask) { p.Config.Hidden = 6 }, api.ErrForm},
		{"another Dim", func(w *weights.Weights, p *steps.Plan, a *model.Ask) { p.Config.Dim = 8 }, api.ErrForm},
		{"no sizes in the plan", func(w *weights.Weights, p *steps.Plan, a *model.Ask) { p.Config = weights.Config{} }, api.ErrForm},
		{"another Limit in the plan", func(w *weights.Weights, p *steps.Plan, a *model.Ask) { p.Limit = 4 }, api.ErrForm},
		{"another Limit in the ask", func(w *weights.Weights, p *steps.Plan, a *model.Ask) { a.Limit = 6 }, api.ErrForm},
		{"another K in the plan", func(w *weights.Weights, p *steps.Plan, a *model.Ask) { p.K = 4 }, api.ErrForm},
		{"another K in the ask", func(w *weights.Weights, p *steps.Plan, a *model.Ask) { a.K = 2 }, api.ErrForm},
		{"a plan that may not be, and another K", func(w *weights.Weights, p *steps.Plan, a *model.Ask) { p.Prompt, p.K = 0, 4 }, api.ErrForm},
		{"another Limit, and a prompt that does not fit", func(w *weights.Weights, p *steps.Plan, a *model.Ask) { a.Limit, a.Prompt = 4, nil }, api.ErrForm},
		{"no K in both", func(w *weights.Weights, p *steps.Plan, a *model.Ask) { p.K, a.K = 0, 0 }, api.ErrRange},
		{"no Limit in both", func(w *weights.Weights, p *steps.Plan, a *model.Ask) { p.Limit, a.Limit = 0, 0 }, api.ErrSize},
		{"a Limit too long in both", func(w *weights.Weights, p *steps.Plan, a *model.Ask) { p.Limit, a.Limit = 7, 7 }, api.ErrLong},
		{"a plan too long, and a prompt that does not fit", func(w *weights.Weights, p *steps.Plan, a *model.Ask) { p.Prompt = 5 }, api.ErrLong},
		{"a plan of no prompt", func(w *weights.Weights, p *steps.Plan, a *model.Ask) { p.Prompt = 0 }, api.ErrSize},
		{"no K, and a prompt that does not fit", func(w *weights.Weights, p *steps.Plan, a *model.Ask) { p.K, a.K, a.Prompt = 0, 0, nil }, api.ErrRange},
		{"a prompt of one fewer", func(w *weights.Weights, p *steps.Plan, a *model.Ask) { a.Prompt = a.Prompt[1:] }, api.ErrSize},
		{"a prompt of one more", func(w *weights.Weights, p *steps.Plan, a *model.Ask) { a.Prompt = append(a.Prompt, 0) }, api.ErrSize},
		{"a plan of one fewer", func(w *weights.Weights, p *steps.Plan, a *model.Ask) { p.Prompt = 2 }, api.ErrSize},
		{"a token of -1", func(w *weights.Weights, p *steps.Plan, a *model.Ask) { a.Prompt[0] = -1 }, api.ErrRange},
		{"a token of Vocab", func(w *weights.Weights, p *steps.Plan, a *model.Ask) { a.Prompt[2] = 7 }, api.ErrRange},
		{"stops", func(w *weights.Weights, p *steps.Plan, a *model.Ask) {
			a.Stop = []int{0, 1, 2, 3, 4, 5, 6, -1, math.MaxInt}
		}, api.OK},
	} {
		w, p, a := made(middle, 5, one), right(), model.Ask{Prompt: []int{0, 6, 3}, Seed: seedOf(9), K: 3, Limit: 5}
		x.turn(&w, &p, &a)
		cells, n, e := steps.Run(w, p, a)
		if e != x.e || e != api.OK && (len(cells) != 0 || n != 0) || e == api.OK && n != 1139 {
			t.Errorf("%s: %d cells, %d steps, %d, not %d", x.what, len(cells), n, int(e), int(x.e))
		}
	}
}

// calm is a model of the middle sizes in which nothing comes to a number that is none: behind tokens 0 and 1 all is 0.
func calm() weights.Weights {
	w := zeros(middle)
	copy(w.Embed.L, []int{4 * one, 0, 0, 0, one, one, one, one})
	for i := range w.Layers {
		w.Layers[i].Norm1, w.Layers[i].Norm2 = slices.Repeat([]int{one}, 4), slices.Repeat([]int{one}, 4)
	}
	w.Norm = slices.Repeat([]int{one}, 4)
	return w
}

// still is a matrix that leaves vectors as they are.
func still() tensor.Matrix {
	m := filled(4, 4, 0)
	for i := range 4 {
		m.L[5*i] = one
	}
	return m
}

// stage is where a layer comes to a number that is none, of which kind of steps, with which token, and at which place first.
type stage struct {
	kind  int
	token int
	at    int
	turn  func(l *weights.Layer)
}

func stages() []stage {
	farthest := slices.Repeat([]int{high}, 4)
	return []stage{
		{steps.NormA, 0, 0, func(l *weights.Layer) { l.Norm1 = farthest }},
		{steps.QueryRow, 1, 0, func(l *weights.Layer) { l.Norm1, l.Query = farthest, filled(4, 4, maxWeight) }},
		{steps.KeyRow, 1, 0, func(l *weights.Layer) { l.Norm1, l.Key = farthest, filled(4, 4, maxWeight) }},
		{steps.ValueRow, 1, 0, func(l *weights.Layer) { l.Norm1, l.Value = farthest, filled(4, 4, maxWeight) }},
		{steps.Turn, 1, 1, func(l *weights.Layer) { l.Norm1, l.Query = farthest, still() }},
		{steps.PutKey, 1, 1, func(l *weights.Layer) { l.Norm1, l.Key = farthest, still() }},
		{steps.Near, 1, 0, func(l *weights.Layer) {
			l.Norm1, l.Query, l.Key = slices.Repeat([]int{1 << 28}, 4), still(), still()
		}},
		{steps.OutputRow, 1, 0, func(l *weights.Layer) { l.Norm1, l.Value, l.Output = farthest, still(), filled(4, 4, maxWeight) }},
		{steps.AddA, 1, 0, func(l *weights.Layer) { l.Norm1, l.Value, l.Output = farthest, still(), still() }},
		{steps.NormB, 0, 0, func(l *weights.Layer) { l.Norm2 = farthest }},
		{steps.GateRow, 1, 0, func(l *weights.Layer) { l.Norm2, l.Gate = farthest, filled(5, 4, maxWeight) }},
		{steps.UpRow, 1, 0, func(l *weights.Layer) { l.Norm2, l.Up = farthest, filled(5, 4, maxWeight) }},
		{steps.Times, 1, 0, func(l *weights.Layer) { l.Norm2, l.Gate, l.Up = farthest, filled(5, 4, one/4), filled(5, 4, one/4) }},
		{steps.DownRow, 1, 0, func(l *weights.Layer) {
			l.Gate, l.Up, l.Down = filled(5, 4, maxWeight/64), filled(5, 4, maxWeight/64), filled(4, 5, maxWeight)
		}},
		{steps.AddB, 1, 0, func(l *weights.Layer) {
			l.Gate, l.Up, l.Down = filled(5, 4, 64*one), filled(5, 4, one/2), filled(4, 5, 0)
			// 256 times 2 times 64 is a half less than there are numbers; with one it is one.
			l.Down.L = slices.Repeat([]int{64 * one, 0, 0, 0, -one / 512}, 4)
		}},
	}
}

// holdRun holds Run, with an ask that may be, against what is told here, and answers with the step at which it left.
func holdRun(t *testing.T, w weights.Weights, a model.Ask) (steps.Step, api.Errno) {
	t.Helper()
	p := steps.Plan{Config: w.Config, Prompt: len(a.Prompt), Limit: a.Limit, K: a.K}
	want := boardOf(p).tellRun(w, a)
	cells, n, e := steps.Run(w, p, a)
	if !same(cells, want.cells) || n != want.many || e != want.e {
		t.Errorf("%v: %v: %d steps, %d, not %d, %d; the cells are right: %v", p, a, n, int(e), want.many, int(want.e), same(cells, want.cells))
	}
	if _, wrong := model.Complete(w, a); e != wrong {
		t.Errorf("%v: %v: %d, not Complete's %d", p, a, int(e), int(wrong))
	}
	s, _ := p.Step(n)
	return s, e
}

// TestRunFirstError has each kind of steps that can come to a number that is none do so, in each layer.
func TestRunFirstError(t *testing.T) { // P12.4, P12.5, R1
	if _, e := holdRun(t, calm(), model.Ask{Prompt: []int{0, 1, 1}, K: 1, Limit: 2}); e != api.OK {
		t.Fatal(int(e))
	}
	for _, y := range stages() {
		for layer := range 3 {
			for _, prompt := range [][]int{slices.Repeat([]int{y.token}, y.at+1), slices.Repeat([]int{y.token}, y.at+3)} {
				w := calm()
				y.turn(&w.Layers[layer])
				s, e := holdRun(t, w, model.Ask{Prompt: prompt, K: 2, Limit: 3})
				if want := (steps.Step{Kind: y.kind, At: y.at, Layer: layer}); s != want || e != api.ErrOver {
					t.Errorf("%v %d, not %v", s, int(e), want)
				}
			}
		}
	}
	for _, x := range []struct {
		token int
		turn  func(w *weights.Weights)
		want  steps.Step
	}{
		{0, func(w *weights.Weights) { w.Norm[0] = high }, steps.Step{Kind: steps.NormC, At: 1}},
		{1, func(w *weights.Weights) { w.Norm[1], w.Out.L[1] = high, maxWeight }, steps.Step{Kind: steps.OutRow}},
		{1, func(w *weights.Weights) { w.Norm[3], w.Out.L[27] = low, -maxWeight }, steps.Step{Kind: steps.OutRow, Row: 6}},
	} {
		w := calm()
		x.turn(&w)
		if s, e := holdRun(t, w, model.Ask{Prompt: []int{1, x.token}, K: 2, Limit: 3}); s != x.want || e != api.ErrOver {
			t.Errorf("%v %d, not %v", s, int(e), x.want)
		}
	}
}

// TestRunFirstErrorBehindTokens has a token that came bring an error: what came up to then stays.
func TestRunFirstErrorBehindTokens(t *testing.T) { // P12.4, P12.5
	// Token 0 alone has an error. Behind any other one it is the most likely, and token 2 the next one.
	w := calm()
	w.Layers[1].Norm1 = slices.Repeat([]int{high}, 4)
	copy(w.Out.L, []int{one, one, one, one})
	copy(w.Out.L[8:], []int{one / 2, one, one, one})
	copy(w.Embed.L[8:], []int{2 * one, 2 * one, 2 * one, 2 * one})
	cells, n, e := steps.Run(w, steps.Plan{Config: middle, Prompt: 1, Limit: 4, K: 1}, model.Ask{Prompt: []int{1}, K: 1, Limit: 4})
	// A place and its token are 145 steps; Load and the first layer's 47 at the next place come ahead of the error.
	if !slices.Equal(cells[steps.Tokens], []int{0, 1, 0, -1, -1, -1}) || n != 145+1+47 || e != api.ErrOver {
		t.Error(cells, n, int(e))
	}
	lengths := map[int]bool{}
	for seed := range byte(20) {
		s, e := holdRun(t, w, model.Ask{Prompt: []int{1, 1}, Seed: seedOf(seed), K: 2, Limit: 6})
		if want := (steps.Step{Kind: steps.NormA, At: s.At, Layer: 1}); e == api.ErrOver && s != want {
			t.Errorf("%v, not %v", s, want)
		}
		lengths[s.At] = true
	}
	if len(lengths) < 3 {
		t.Error(lengths)
	}
	// Of the last token that comes nothing is asked.
	if _, e := holdRun(t, w, model.Ask{Prompt: []int{1}, K: 1, Limit: 1}); e != api.OK {
		t.Error(int(e))
	}
}

// TestRunOfAny has models whose numbers are so great that some leave at any step.
func TestRunOfAny(t *testing.T) { // P12.4, P12.5
	chance := newChance(21)
	kinds := map[int]bool{}
	for _, p := range somePlans() {
		for range 12 {
			w := made(p.Config, chance.Uint64(), one<<chance.IntN(9))
			a := model.Ask{Prompt: everyThird(p.Prompt, p.Config.Vocab), Seed: seedOf(byte(chance.IntN(256))), K: p.K, Limit: p.Limit}
			s, _ := holdRun(t, w, a)
			kinds[s.Kind] = true
		}
	}
	if len(kinds) < 5 {
		t.Error(kinds)
	}
}

// TestStepsHangOnWhatTheyRead turns all cells that a step does not read, and has it be done all the same, and all cells that it does not write be as they were.
func TestStepsHangOnWhatTheyRead(t *testing.T) { // P12.5
	for _, p := range somePlans()[:7] {
		w := made(p.Config, 7, one)
		a := model.Ask{Prompt: everyThird(p.Prompt, p.Config.Vocab), Seed: seedOf(3), K: p.K, Limit: p.Limit}
		ahead, _ := p.Begin(a.Prompt)
		b := boardOf(p)
		walk(t, w, p, a, func(s steps.Step, cells [][]int) {
			for cell := range cells {
				if cell != p.Writes(s) && !slices.Equal(cells[cell], ahead[cell]) {
					t.Fatalf("%v, %v: cell %d is turned", p, s, cell)
				}
			}
			others := make([][]int, len(ahead))
			for _, cell := range p.Reads(s) {
				others[cell] = ahead[cell]
			}
			if l, e := p.Do(s, pieces(others, p.Reads(s)), b.rowOf(w, s, others), a.Seed); !slices.Equal(l, cells[p.Writes(s)]) || e != api.OK {
				t.Fatalf("%v, %v: %v %d", p, s, l, int(e))
			}
			ahead[p.Writes(s)] = slices.Clone(cells[p.Writes(s)])
		})
	}
}

// TestEachReadCounts turns each cell that a step reads: what is written turns, too, by some numbers of it.
func TestEachReadCounts(t *testing.T) { // P12.5
	chance := newChance(22)
	some := func(many int) []int {
		l := make([]int, many)
		for i := range l {
			l[i] = one + chance.IntN(one)
		}
		return l
	}
	b := boardOf(right())
	for _, s := range b.l {
		// What Load reads tells the row of weights alone.
		if s.At != 4 || s.Kind == steps.Load {
			continue
		}
		x := anyTask(chance, b, s, some)
		before, e := b.Do(s, x.reads, x.weight, x.seed)
		for i := range x.reads {
			counts := false
			for range 40 {
				reads := slices.Clone(x.reads)
				reads[i] = anyTask(chance, b, s, some).reads[i]
				behind, wrong := b.Do(s, reads, x.weight, x.seed)
				counts = counts || !slices.Equal(before, behind)
				if e != api.OK || wrong != api.OK {
					t.Fatalf("%v: %d %d", s, int(e), int(wrong))
				}
			}
			if !counts {
				t.Errorf("%v: what it reads of cell %d does not count", s, b.lineOf(s).reads[i])
			}
		}
	}
}
