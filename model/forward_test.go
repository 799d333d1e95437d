package model_test

import (
	"crypto/sha256"
	"encoding/binary"
	"encoding/hex"
	"math"
	"slices"
	"testing"

	"cupel/api"
	"cupel/model"
	"cupel/tensor"
	"cupel/weights"
)

func TestEmpty(t *testing.T) { // P11.1
	for _, c := range append(someConfigs(), weights.Config{}, weights.Config{Layers: 1}, weights.Config{Layers: 5}, weights.Config{Vocab: -1, Layers: 100}) {
		p := model.Empty(c)
		if len(p.Layers) != c.Layers || p.Len() != 0 {
			t.Errorf("%v: %d layers, %d places", c, len(p.Layers), p.Len())
		}
		for i, y := range p.Layers {
			if len(y.Keys) != 0 || len(y.Values) != 0 {
				t.Errorf("%v: layer %d: %v", c, i, y)
			}
		}
	}
}

// TestEmptyOfNone has layers that can't be.
func TestEmptyOfNone(t *testing.T) { // P11.1, R1
	for _, n := range []int{-1, -4, math.MinInt, 1 << 31, 1 << 40, math.MaxInt / 48, math.MaxInt/48 + 1, math.MaxInt - 1, math.MaxInt} {
		if p := model.Empty(weights.Config{Layers: n}); len(p.Layers) != 0 || p.Len() != 0 {
			t.Errorf("%d: %d layers", n, len(p.Layers))
		}
	}
}

func TestLen(t *testing.T) { // P11.1
	l := func(many int) [][]int { return make([][]int, many) }
	for _, x := range []struct {
		p model.Past
		n int
	}{
		{model.Past{}, 0}, {model.Past{Layers: []model.Cache{}}, 0}, {model.Past{Layers: []model.Cache{{}}}, 0}, {model.Past{Layers: []model.Cache{{l(1), l(1)}}}, 1},
		{model.Past{Layers: []model.Cache{{l(3), l(3)}, {l(3), l(3)}}}, 3}, {model.Past{Layers: []model.Cache{{l(2), l(2)}, {l(7), l(7)}}}, 2}, {model.Past{Layers: []model.Cache{{}, {l(7), l(7)}}}, 0},
	} {
		if n := x.p.Len(); n != x.n {
			t.Errorf("%v: %d, not %d", x.p, n, x.n)
		}
	}
}

// digest is the beginning of a digest of numbers.
func digest(l ...[]int) string {
	h := sha256.New()
	for _, v := range l {
		for _, n := range v {
			h.Write(binary.BigEndian.AppendUint64(nil, uint64(n)))
		}
	}
	return hex.EncodeToString(h.Sum(nil)[:8])
}

// everyThird is tokens of which each is three behind the one ahead of it.
func everyThird(many, vocab int) []int {
	l := make([]int, many)
	for i := range l {
		l[i] = (3*i + 1) % vocab
	}
	return l
}

// TestForwardTold has answers that another program has worked out.
func TestForwardTold(t *testing.T) { // P11.2
	for _, x := range []struct {
		c          weights.Config
		seed       uint64
		l          [][]int
		key, value []int // the last ones of the last layer
	}{
		{small, 1, [][]int{
			{7028, 76706, 62646, -152428, 22662}, {-76555, -11810, -91285, 128936, -92331}, {-66662, -28324, -92434, 145812, -83783}, {83539, -5723, 86258, -106097, 97263},
			{66221, 28946, 92403, -146351, 83380}, {-66731, -28227, -92439, 145729, -83847}, {-57205, 79619, -4745, -68085, -52403}, {70784, 22109, 92433, -140018, 87470},
		}, []int{-161255, -194688}, []int{200604, 164387}},
		{middle, 2, [][]int{
			{24289, 7026, -3714, -20469, -24876, -21988, -11840}, {7156, -47369, -62624, -16844, -89168, -77954, -7532}, {19901, 63024, 86070, -33020, 66382, 24260, -23819},
			{9329, -80399, -99135, -12462, -133075, -105619, 592}, {-4282, -48541, -63243, -9484, -79564, -70211, -5037}, {9513, -54247, -71126, -16255, -100095, -84002, -5692},
			{14300, -44957, -58915, -23760, -93450, -84261, -10803}, {22241, -53343, -69135, -26346, -111461, -95567, -9539}, {2123, -70714, -88781, -9982, -114619, -93274, -963},
		}, []int{5378, -227431, -211358, -249297}, []int{289327, 73062, -251300, 44883}},
	} {
		w := made(x.c, x.seed, 2*one)
		p := model.Empty(x.c)
		for i, token := range everyThird(len(x.l), x.c.Vocab) {
			l, next, e := model.Forward(w, token, p)
			if !slices.Equal(l, x.l[i]) || next.Len() != i+1 || e != api.OK {
				t.Fatalf("%v at %d: %v %d, not %v", x.c, i, l, int(e), x.l[i])
			}
			p = next
		}
		last := p.Layers[x.c.Layers-1]
		if i := p.Len() - 1; !slices.Equal(last.Keys[i], x.key) || !slices.Equal(last.Values[i], x.value) {
			t.Errorf("%v: %v %v", x.c, last.Keys[i], last.Values[i])
		}
	}
}

// TestForwardToldOfMany has digests of what another program has worked out: of all tokens' numbers, and of the past in the end.
func TestForwardToldOfMany(t *testing.T) { // P11.2
	for _, x := range []struct {
		c             weights.Config
		seed          uint64
		span, many    int
		numbers, past string
	}{
		{small, 1, 2 * one, 8, "7897b614f8c04401", "755e1ae9fa3edd3e"},
		{middle, 2, 2 * one, 9, "d5543797bab65305", "76e46fe1ff567919"},
		{weights.Config{Vocab: 1, Dim: 2, Heads: 1, Layers: 1, Ctx: 2, Hidden: 1}, 6, 3 * one, 2, "b79b07b83c50f4cf", "c4d4488da888b49c"},
		{weights.Config{Vocab: 12, Dim: 16, Heads: 8, Layers: 2, Ctx: 10, Hidden: 6}, 3, one, 10, "7e5a5c98cff4f82d", "aaed7c5be50e1157"},
		{weights.Config{Vocab: 20, Dim: 12, Heads: 3, Layers: 4, Ctx: 24, Hidden: 7}, 4, one, 24, "caa90012937a0773", "b7812a39e683c734"},
		{weights.Config{Vocab: 3, Dim: 6, Heads: 1, Layers: 2, Ctx: 64, Hidden: 2}, 7, 2 * one, 64, "65f9f28c4ac27d27", "899a11fa84dfeeb5"},
		{weights.Config{Vocab: 33, Dim: 64, Heads: 1, Layers: 1, Ctx: 5, Hidden: 64}, 8, one / 2, 5, "b21816d263f1dcbe", "517f6c7bd6194e06"},
		{weights.Config{Vocab: 9, Dim: 10, Heads: 5, Layers: 1, Ctx: 6, Hidden: 9}, 9, 3 * one / 2, 6, "b945db7268ace01e", "3490bf57f23b5ead"},
		{weights.Config{Vocab: 4, Dim: 4, Heads: 1, Layers: 4, Ctx: 4, Hidden: 4}, 10, one, 4, "1d39e9d4dcca31a3", "674b3f91e7dfaf58"},
		{weights.Config{Vocab: 512, Dim: 64, Heads: 8, Layers: 4, Ctx: 64, Hidden: 64}, 5, one / 4, 12, "6f554b24699afda3", "ef8cb318271f3091"},
	} {
		w := made(x.c, x.seed, x.span)
		p := model.Empty(x.c)
		var all, kept [][]int
		for _, token := range everyThird(x.many, x.c.Vocab) {
			l, next, e := model.Forward(w, token, p)
			if e != api.OK {
				t.Fatalf("%v: %d", x.c, int(e))
			}
			all, p = append(all, l), next
		}
		for _, y := range p.Layers {
			kept = append(kept, slices.Concat(y.Keys, y.Values)...)
		}
		if digest(all...) != x.numbers || digest(kept...) != x.past {
			t.Errorf("%v: %s %s, not %s %s", x.c, digest(all...), digest(kept...), x.numbers, x.past)
		}
	}
}

// TestForwardUpToCtx goes on with the first token, the last one and others until there is no place any more.
func TestForwardUpToCtx(t *testing.T) { // P11.2
	seen := map[api.Errno]int{}
	for i, c := range someConfigs() {
		for _, span := range []int{0, 5, one / 2, one, 2 * one, 8 * one, maxWeight} {
			w := made(c, uint64(i), span)
			p := model.Empty(c)
			for at := range c.Ctx + 2 {
				token := []int{0, c.Vocab - 1, at % c.Vocab}[at%3]
				next, e := holdForward(t, w, token, p)
				seen[e]++
				if (e == api.ErrLong) != (at >= c.Ctx) && span <= one/2 {
					t.Errorf("%v at %d: %d", c, at, int(e))
				}
				p = next
			}
		}
	}
	if seen[api.OK] < 300 || seen[api.ErrOver] < 50 || seen[api.ErrLong] < 50 {
		t.Error(seen)
	}
}

// allAtOnce is the numbers behind each of tokens, layer by layer for all of them, without a past.
func allAtOnce(w weights.Weights, tokens []int) [][]int {
	var xs [][]int
	for _, token := range tokens {
		xs = append(xs, got(w.Embed.Row(token)))
	}
	for _, l := range w.Layers {
		var qs, ks, vs [][]int
		for at, x := range xs {
			h := got(tensor.Norm(x, l.Norm1))
			qs = append(qs, turned(got(tensor.Mul(l.Query, h)), w.Config.Heads, at))
			ks = append(ks, turned(got(tensor.Mul(l.Key, h)), w.Config.Heads, at))
			vs = append(vs, got(tensor.Mul(l.Value, h)))
		}
		for at, x := range xs {
			a := tellAttend(qs[at], ks[:at+1], vs[:at+1], w.Config.Heads)
			x = got(tensor.Add(x, got(tensor.Mul(l.Output, a))))
			xs[at] = got(tensor.Add(x, tellFeed(got(tensor.Norm(x, l.Norm2)), l)))
		}
	}
	var all [][]int
	for _, x := range xs {
		all = append(all, got(tensor.Mul(w.Out, got(tensor.Norm(x, w.Norm)))))
	}
	return all
}

// TestForwardHangsOnWhatIsAhead: what comes of tokens one by one is what comes of them all at once.
func TestForwardHangsOnWhatIsAhead(t *testing.T) { // P11.4
	chance := newChance(7)
	for i, c := range someConfigs() {
		w := made(c, uint64(20+i), one)
		for range 3 {
			l := make([]int, c.Ctx)
			for i := range l {
				l[i] = chance.IntN(c.Vocab)
			}
			all, wrong := told(func() [][]int { return allAtOnce(w, l) })
			if wrong != api.OK {
				t.Fatalf("%v: %d", c, int(wrong))
			}
			p := model.Empty(c)
			for at, token := range l {
				numbers, next, e := model.Forward(w, token, p)
				if !slices.Equal(numbers, all[at]) || e != api.OK {
					t.Fatalf("%v at %d: %v %d, not %v", c, at, numbers, int(e), all[at])
				}
				p = next
			}
		}
	}
}

// TestForwardOfAnyPast has pasts that no model has to have made, of numbers of all lengths, and of what is no number.
func TestForwardOfAnyPast(t *testing.T) { // P11.2, R1
	chance := newChance(8)
	seen := map[api.Errno]int{}
	for i, c := range someConfigs() {
		for range 120 {
			w := made(c, uint64(i), []int{one / 8, one, 4 * one, maxWeight}[chance.IntN(4)])
			p := pastOf(chance, c, min(chance.IntN(c.Ctx+1), 12), 4+chance.IntN(28))
			for p.Len() > 0 && chance.IntN(3) == 0 {
				y := p.Layers[chance.IntN(c.Layers)]
				l := [][][]int{y.Keys, y.Values}[chance.IntN(2)]
				at := chance.IntN(p.Len())
				if chance.IntN(3) == 0 {
					l[at] = l[at][:chance.IntN(len(l[at])+1)]
				} else if len(l[at]) > 0 {
					l[at][chance.IntN(len(l[at]))] = notNumbers()[chance.IntN(5)]
				}
			}
			_, e := holdForward(t, w, chance.IntN(c.Vocab), p)
			seen[e]++
		}
	}
	for _, e := range []api.Errno{api.OK, api.ErrRange, api.ErrSize, api.ErrOver} {
		if seen[e] < 50 {
			t.Error(seen)
		}
	}
}

func refuseForward(t *testing.T, what string, w weights.Weights, token int, p model.Past, wrong api.Errno) {
	t.Helper()
	before := clonePast(p)
	if l, next, e := model.Forward(w, token, p); len(l) != 0 || next.Layers != nil || e != wrong {
		t.Errorf("%s: %v %v %d, not %d", what, l, next, int(e), int(wrong))
	}
	if !samePast(p, before) {
		t.Errorf("%s: the past is turned", what)
	}
	if _, e := told(func() behind { return tellForward(w, token, p) }); e != wrong {
		t.Errorf("%s: %d is wanted, not %d", what, int(e), int(wrong))
	}
}

// TestForwardOfWrongModels has all else be wrong, too.
func TestForwardOfWrongModels(t *testing.T) { // P11.2, R1
	right := made(middle, 1, one)
	full := pastOf(newChance(9), middle, middle.Ctx, 20)
	for what, x := range wrongModels() {
		w := cloned(right)
		x.turn(&w)
		for _, token := range []int{0, -1, 7} {
			refuseForward(t, what, w, token, model.Empty(middle), x.e)
			refuseForward(t, what, w, token, model.Past{}, x.e)
			refuseForward(t, what, w, token, full, x.e)
		}
	}
}

type wrongModel struct {
	turn func(w *weights.Weights)
	e    api.Errno
}

// wrongModels is turns of models of the middle sizes, with the error that each brings.
func wrongModels() map[string]wrongModel {
	return map[string]wrongModel{
		"none":                        {func(w *weights.Weights) { *w = weights.Weights{} }, api.ErrRange},
		"a size that is far":          {func(w *weights.Weights) { w.Config.Ctx = 65 }, api.ErrRange},
		"heads that do not part it":   {func(w *weights.Weights) { w.Config.Heads = 4 }, api.ErrSize},
		"a byte twice":                {func(w *weights.Weights) { w.Alphabet[1] = w.Alphabet[0] }, api.ErrThere},
		"a pair of none":              {func(w *weights.Weights) { w.Pairs[0].A = 6 }, api.ErrRange},
		"a token too few":             {func(w *weights.Weights) { w.Pairs = w.Pairs[1:] }, api.ErrSize},
		"a layer too few":             {func(w *weights.Weights) { w.Layers = w.Layers[1:] }, api.ErrSize},
		"a layer too many":            {func(w *weights.Weights) { w.Layers = append(w.Layers, w.Layers[0]) }, api.ErrSize},
		"a weight that is none":       {func(w *weights.Weights) { w.Layers[2].Down.L[19] = maxWeight + 1 }, api.ErrRange},
		"a number that is none":       {func(w *weights.Weights) { w.Norm[3] = high + 1 }, api.ErrRange},
		"a row too few, in the end":   {func(w *weights.Weights) { w.Out.Rows = 6 }, api.ErrSize},
		"a token's row that is short": {func(w *weights.Weights) { w.Embed.L = w.Embed.L[1:] }, api.ErrSize},
	}
}

// TestForwardOfSizes has pasts of layers, keys and values that are not as many as they have to be.
func TestForwardOfSizes(t *testing.T) { // P11.2, R1
	w := made(middle, 1, one)
	for _, places := range []int{0, 1, 4, middle.Ctx - 1, middle.Ctx} {
		for what, turn := range map[string]func(p *model.Past){
			"no layers":                func(p *model.Past) { p.Layers = nil },
			"a layer too few":          func(p *model.Past) { p.Layers = p.Layers[:2] },
			"a layer too many":         func(p *model.Past) { p.Layers = append(p.Layers, p.Layers[0]) },
			"a layer too many, empty":  func(p *model.Past) { p.Layers = append(p.Layers, model.Cache{}) },
			"a key too many":           func(p *model.Past) { p.Layers[0].Keys = append(p.Layers[0].Keys, make([]int, 4)) },
			"a value too many":         func(p *model.Past) { p.Layers[0].Values = append(p.Layers[0].Values, make([]int, 4)) },
			"a key too many, later":    func(p *model.Past) { p.Layers[1].Keys = append(p.Layers[1].Keys, make([]int, 4)) },
			"a value too many, later":  func(p *model.Past) { p.Layers[2].Values = append(p.Layers[2].Values, make([]int, 4)) },
			"a place more, in the end": func(p *model.Past) { p.Layers[2] = pastOf(newChance(1), middle, places+1, 9).Layers[0] },
			"a place more, ahead":      func(p *model.Past) { p.Layers[0] = pastOf(newChance(1), middle, places+1, 9).Layers[0] },
			"a key too few": func(p *model.Past) {
				p.Layers[0].Keys, p.Layers[0].Values = p.Layers[0].Keys[:max(places-1, 0)], append(p.Layers[0].Values, make([]int, 4))
			},
		} {
			p := pastOf(newChance(10), middle, places, 20)
			turn(&p)
			// It is so, whatever the token is, and wherever the past ends.
			for _, token := range []int{0, 6, -1, 7} {
				refuseForward(t, what, w, token, p, api.ErrSize)
			}
		}
		for layer := range 3 {
			for _, keys := range []bool{false, true} {
				p := pastOf(newChance(11), middle, places, 20)
				l := &p.Layers[layer].Values
				if keys {
					l = &p.Layers[layer].Keys
				}
				if *l = (*l)[:max(places-1, 0)]; places > 0 {
					refuseForward(t, "one too few", w, 7, p, api.ErrSize)
				}
			}
		}
	}
}

func TestForwardOfTokens(t *testing.T) { // P11.2, R1
	for _, c := range someConfigs() {
		w := made(c, 12, one/4)
		for _, places := range []int{0, 1, c.Ctx - 1, c.Ctx} {
			p := pastOf(newChance(13), c, places, 16)
			for _, token := range append(farNumbers(), c.Vocab, c.Vocab+1) {
				// Where the past is full, too, the token is told.
				refuseForward(t, "a token", w, token, p, api.ErrRange)
			}
			for _, token := range []int{0, c.Vocab - 1} {
				if places == c.Ctx {
					refuseForward(t, "a past that is full", w, token, p, api.ErrLong)
				} else if _, e := holdForward(t, w, token, p); e != api.OK {
					t.Errorf("%v, %d places: %d", c, places, int(e))
				}
			}
		}
	}
}

// TestForwardBeyondCtx: the chapter tells of as many places as Ctx alone that they are too long.
func TestForwardBeyondCtx(t *testing.T) { // P11.2, R1
	for _, c := range []weights.Config{small, middle, {Vocab: 3, Dim: 6, Heads: 1, Layers: 2, Ctx: 64, Hidden: 2}} {
		w := made(c, 14, one)
		for _, places := range []int{c.Ctx + 1, c.Ctx + 2, 63, 64, 65, 600, 1100} {
			holdForward(t, w, 1, pastOf(newChance(15), c, places, 16))
		}
	}
}

// TestForwardOfVectors has keys and values in a past that are no vectors of the model.
func TestForwardOfVectors(t *testing.T) { // P11.2, R1
	w := made(middle, 16, one)
	for layer := range 3 {
		for at := range 3 {
			for _, x := range []struct {
				v []int
				e api.Errno
			}{{nil, api.ErrSize}, {[]int{1, 2, 3}, api.ErrSize}, {[]int{1, 2, 3, 4, 5}, api.ErrSize}, {[]int{1, 2, 3, 4, 5, 6, 7, 8}, api.ErrSize}, {[]int{high + 1, 0, 0, 0}, api.ErrRange}, {[]int{0, 0, 0, low - 1}, api.ErrRange}} {
				p := pastOf(newChance(17), middle, 3, 16)
				p.Layers[layer].Keys[at] = x.v
				refuseForward(t, "a key", w, 2, p, x.e)
				p = pastOf(newChance(17), middle, 3, 16)
				p.Layers[layer].Values[at] = x.v
				refuseForward(t, "a value", w, 2, p, x.e)
			}
		}
	}
}

// calm is a model of the middle sizes whose layers turn nothing; token 0 is one number of which the others are far, token 1 the same one four times.
func calm() weights.Weights {
	w := made(middle, 0, 0)
	copy(w.Embed.L, []int{4 * one, 0, 0, 0, one, one, one, one})
	for i := range w.Layers {
		w.Layers[i].Norm1, w.Layers[i].Norm2 = slices.Repeat([]int{one}, 4), slices.Repeat([]int{one}, 4)
	}
	w.Norm = slices.Repeat([]int{one}, 4)
	return w
}

// zeroPast is a past of the middle sizes, of numbers that are all 0.
func zeroPast(places int) model.Past {
	p := model.Empty(middle)
	for i := range p.Layers {
		for range places {
			p.Layers[i].Keys, p.Layers[i].Values = append(p.Layers[i].Keys, make([]int, 4)), append(p.Layers[i].Values, make([]int, 4))
		}
	}
	return p
}

// same is a matrix that leaves vectors as they are.
func same() tensor.Matrix {
	return matrix(4, 4, one, 0, 0, 0, 0, one, 0, 0, 0, 0, one, 0, 0, 0, 0, one)
}

// stage is where a layer comes to a number that is none, with this token.
type stage struct {
	what  string
	token int
	ahead bool // ahead of values being mixed
	turn  func(l *weights.Layer)
}

func stages() []stage {
	farthest := slices.Repeat([]int{high}, 4)
	return []stage{
		{"Norm1", 0, true, func(l *weights.Layer) { l.Norm1 = farthest }},
		{"Query", 1, true, func(l *weights.Layer) { l.Norm1, l.Query = farthest, filled(4, 4, maxWeight) }},
		{"Key", 1, true, func(l *weights.Layer) { l.Norm1, l.Key = farthest, filled(4, 4, maxWeight) }},
		{"Value", 1, true, func(l *weights.Layer) { l.Norm1, l.Value = farthest, filled(4, 4, maxWeight) }},
		{"q turned", 1, true, func(l *weights.Layer) { l.Norm1, l.Query = farthest, same() }},
		{"k turned", 1, true, func(l *weights.Layer) { l.Norm1, l.Key = farthest, same() }},
		{"a score", 1, true, func(l *weights.Layer) {
			l.Norm1, l.Query, l.Key = slices.Repeat([]int{1 << 28}, 4), same(), same()
		}},
		{"Output", 1, false, func(l *weights.Layer) { l.Norm1, l.Value, l.Output = farthest, same(), filled(4, 4, maxWeight) }},
		{"x and a", 1, false, func(l *weights.Layer) {
			l.Norm1, l.Value, l.Output = farthest, same(), matrix(4, 4, make([]int, 16)...)
			l.Output.L[0] = 2*one - 1
		}},
		{"Norm2", 0, false, func(l *weights.Layer) { l.Norm2 = farthest }},
		{"Gate", 1, false, func(l *weights.Layer) { l.Norm2, l.Gate = farthest, filled(5, 4, maxWeight) }},
		{"Up", 1, false, func(l *weights.Layer) { l.Norm2, l.Up = farthest, filled(5, 4, maxWeight) }},
		{"both", 1, false, func(l *weights.Layer) { l.Norm2, l.Gate, l.Up = farthest, filled(5, 4, one/4), filled(5, 4, one/4) }},
		{"Down", 1, false, func(l *weights.Layer) {
			l.Gate, l.Up, l.Down = filled(5, 4, maxWeight/64), filled(5, 4, maxWeight/64), filled(4, 5, maxWeight)
		}},
		{"x and what is fed", 1, false, func(l *weights.Layer) {
			l.Gate, l.Up, l.Down = filled(5, 4, 64*one), filled(5, 4, one/2), filled(4, 5, 0)
			// 256 times 2 times 64 is a half less than there are numbers; with one it is one.
			l.Down.L = slices.Repeat([]int{64 * one, 0, 0, 0, -one / 512}, 4)
		}},
	}
}

// TestForwardFirstError has each stage of each layer come to a number that is none, and the past of each layer be wrong.
func TestForwardFirstError(t *testing.T) { // P11.2, R1
	zeros := func() model.Past { return zeroPast(1) }
	for _, y := range stages() {
		for layer := range 3 {
			w := calm()
			if _, _, e := model.Forward(w, y.token, zeros()); e != api.OK {
				t.Fatal(int(e))
			}
			y.turn(&w.Layers[layer])
			refuseForward(t, y.what, w, y.token, zeros(), api.ErrOver)
			for other := range 3 {
				p := zeros()
				p.Layers[other].Values[0][3] = high + 1
				want := api.ErrOver
				if other < layer || other == layer && !y.ahead {
					want = api.ErrRange
				}
				refuseForward(t, y.what, w, y.token, p, want)
			}
		}
	}
}

// TestForwardLayersInOrder has pasts of which two layers are wrong.
func TestForwardLayersInOrder(t *testing.T) { // P11.2, R1
	w := made(middle, 18, one)
	for one := range 3 {
		for other := range 3 {
			if one == other {
				continue
			}
			p := pastOf(newChance(19), middle, 2, 16)
			p.Layers[one].Values[1] = []int{1}
			p.Layers[other].Keys[0][2] = high + 1
			want := api.ErrSize
			if other < one {
				want = api.ErrRange
			}
			refuseForward(t, "two layers", w, 3, p, want)
		}
	}
}

// TestForwardInTheEnd has what is behind all layers come to a number that is none.
func TestForwardInTheEnd(t *testing.T) { // P11.2, R1
	for _, x := range []struct {
		token int
		turn  func(w *weights.Weights)
	}{
		{0, func(w *weights.Weights) { w.Norm[0] = high }},
		{1, func(w *weights.Weights) { w.Norm[1], w.Out.L[1] = high, maxWeight }},
		{1, func(w *weights.Weights) { w.Norm[3], w.Out.L[27] = low, -maxWeight }},
	} {
		w := calm()
		p := zeroPast(1)
		if next, e := holdForward(t, w, x.token, p); e != api.OK || next.Len() != 2 {
			t.Error(next, int(e))
		}
		x.turn(&w)
		refuseForward(t, "in the end", w, x.token, p, api.ErrOver)
		p.Layers[2].Keys[0] = nil
		refuseForward(t, "in the end, behind a layer", w, x.token, p, api.ErrSize)
	}
}
