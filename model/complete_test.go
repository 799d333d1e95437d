package model_test

import (
	"bytes"
	"math"
	"slices"
	"testing"

	"cupel/api"
	"cupel/model"
	"cupel/weights"
)

// seedOf is a seed of the same byte again and again.
func seedOf(b byte) api.Digest { return api.Digest(bytes.Repeat([]byte{b}, 32)) }

// TestCompleteTold has answers that another program has worked out.
func TestCompleteTold(t *testing.T) { // P11.3
	wide := weights.Config{Vocab: 12, Dim: 16, Heads: 8, Layers: 2, Ctx: 10, Hidden: 6}
	deep := weights.Config{Vocab: 20, Dim: 12, Heads: 3, Layers: 4, Ctx: 24, Hidden: 7}
	long := weights.Config{Vocab: 3, Dim: 6, Heads: 1, Layers: 2, Ctx: 64, Hidden: 2}
	square := weights.Config{Vocab: 4, Dim: 4, Heads: 1, Layers: 4, Ctx: 4, Hidden: 4}
	for _, x := range []struct {
		c      weights.Config
		number uint64
		span   int
		prompt int
		seed   byte
		k      int
		l      []int
	}{
		{small, 1, 2 * one, 2, 0, 1, []int{3, 2, 3, 2, 3, 4}},
		{small, 1, 2 * one, 2, 0, 2, []int{3, 2, 3, 2, 1, 2}},
		{small, 1, 2 * one, 2, 0, 5, []int{3, 2, 3, 4, 3, 3}},
		{small, 1, 2 * one, 2, 1, 1, []int{3, 2, 3, 2, 3, 4}},
		{small, 1, 2 * one, 2, 1, 2, []int{3, 4, 3, 3, 3, 3}},
		{small, 1, 2 * one, 2, 1, 5, []int{2, 3, 2, 3, 1, 1}},
		{middle, 2, 2 * one, 2, 0, 1, []int{0, 2, 4, 0, 0, 0, 0}},
		{middle, 2, 2 * one, 2, 0, 2, []int{0, 2, 4, 0, 6, 0, 0}},
		{middle, 2, 2 * one, 2, 0, 7, []int{4, 0, 0, 6, 6, 4, 0}},
		{middle, 2, 2 * one, 2, 1, 2, []int{0, 4, 0, 0, 0, 6, 0}},
		{middle, 2, 2 * one, 2, 1, 7, []int{4, 0, 1, 6, 5, 2, 0}},
		{weights.Config{Vocab: 1, Dim: 2, Heads: 1, Layers: 1, Ctx: 2, Hidden: 1}, 6, 3 * one, 1, 0, 1, []int{0}},
		{wide, 3, one, 3, 0, 1, []int{5, 0, 2, 2, 5, 2, 5}},
		{wide, 3, one, 3, 0, 2, []int{5, 0, 2, 2, 10, 3, 9}},
		{wide, 3, one, 3, 0, 12, []int{1, 2, 11, 4, 0, 0, 10}},
		{wide, 3, one, 3, 1, 2, []int{5, 4, 2, 2, 0, 0, 4}},
		{wide, 3, one, 3, 1, 12, []int{0, 11, 3, 2, 5, 5, 10}},
		{deep, 4, one, 5, 0, 1, []int{3, 3, 3, 3, 19, 13, 8, 13, 8, 2, 13, 19, 13, 2, 19, 2, 3, 19, 13}},
		{deep, 4, one, 5, 0, 2, []int{3, 3, 3, 3, 3, 2, 19, 2, 2, 11, 2, 19, 11, 2, 1, 2, 13, 8, 8}},
		{deep, 4, one, 5, 0, 20, []int{17, 3, 13, 1, 13, 16, 13, 13, 9, 17, 7, 6, 9, 11, 2, 3, 3, 3, 3}},
		{deep, 4, one, 5, 1, 2, []int{3, 19, 19, 13, 13, 11, 12, 7, 14, 13, 6, 3, 18, 18, 18, 18, 12, 18, 13}},
		{deep, 4, one, 5, 1, 20, []int{8, 7, 10, 19, 1, 15, 3, 7, 1, 18, 18, 5, 16, 0, 13, 18, 6, 6, 8}},
		{long, 7, 2 * one, 60, 0, 2, []int{2, 2, 2, 2}},
		{long, 7, 2 * one, 60, 1, 3, []int{2, 1, 2, 2}},
		{square, 10, one, 3, 0, 2, []int{3}},
		{square, 10, one, 3, 0, 4, []int{0}},
		{square, 10, one, 3, 1, 4, []int{2}},
	} {
		w := made(x.c, x.number, x.span)
		a := model.Ask{Prompt: everyThird(x.prompt, x.c.Vocab), Seed: seedOf(x.seed), K: x.k, Limit: len(x.l)}
		if l, e := model.Complete(w, a); !slices.Equal(l, x.l) || e != api.OK {
			t.Errorf("%v, %d: %v %d, not %v", x.c, x.k, l, int(e), x.l)
		}
		if e := model.Check(x.c, a); e != api.OK {
			t.Errorf("%v: Check: %d", x.c, int(e))
		}
	}
}

// TestCompleteOfAny has asks of all kinds that may be.
func TestCompleteOfAny(t *testing.T) { // P11.3, P11.4
	chance := newChance(30)
	lengths := map[bool]int{}
	for i, c := range someConfigs() {
		for range 20 {
			w := made(c, uint64(i), []int{one / 8, one, 2 * one}[chance.IntN(3)])
			prompt := make([]int, 1+chance.IntN(min(c.Ctx-1, 6)))
			for i := range prompt {
				prompt[i] = chance.IntN(c.Vocab)
			}
			a := model.Ask{Prompt: prompt, Seed: seedOf(byte(chance.IntN(256))), K: 1 + chance.IntN(c.Vocab), Limit: 1 + chance.IntN(min(c.Ctx-len(prompt), 12))}
			for chance.IntN(3) > 0 {
				a.Stop = append(a.Stop, chance.IntN(c.Vocab))
			}
			l := holdComplete(t, w, a)
			lengths[len(l) == a.Limit]++
		}
	}
	if lengths[true] < 40 || lengths[false] < 40 {
		t.Error(lengths)
	}
}

// rightAsk is what may be asked of a model of the middle sizes.
func rightAsk() model.Ask {
	return model.Ask{Prompt: []int{0, 6, 3}, Seed: seedOf(9), K: 3, Limit: 4, Stop: nil}
}

// refuseAsk holds Check and Complete to an error.
func refuseAsk(t *testing.T, what string, w weights.Weights, a model.Ask, wrong api.Errno) {
	t.Helper()
	if e := model.Check(w.Config, a); e != wrong {
		t.Errorf("%s: Check: %d, not %d", what, int(e), int(wrong))
	}
	if l, e := model.Complete(w, a); len(l) != 0 || e != wrong {
		t.Errorf("%s: Complete: %v %d, not %d", what, l, int(e), int(wrong))
	}
	if _, e := told(func() int { return tellCheck(w.Config, a) }); e != wrong {
		t.Errorf("%s: %d is wanted, not %d", what, int(e), int(wrong))
	}
}

func TestCheckOfSizes(t *testing.T) { // P11.3, R1
	for _, x := range []struct {
		c weights.Config
		e api.Errno
	}{
		{middle, api.OK}, {weights.Config{}, api.ErrRange}, {weights.Config{Vocab: 7, Dim: 4, Heads: 2, Layers: 3, Ctx: 65, Hidden: 5}, api.ErrRange}, {weights.Config{Vocab: 7, Dim: 4, Heads: 4, Layers: 3, Ctx: 9, Hidden: 5}, api.ErrSize},
		{weights.Config{Vocab: 513, Dim: 4, Heads: 2, Layers: 3, Ctx: 9, Hidden: 5}, api.ErrRange}, {weights.Config{Vocab: 7, Dim: 4, Heads: 2, Layers: 3, Ctx: math.MinInt, Hidden: 5}, api.ErrRange},
		{weights.Config{Vocab: 7, Dim: 4, Heads: 2, Layers: 3, Ctx: math.MaxInt, Hidden: 5}, api.ErrRange},
	} {
		if e := model.Check(x.c, rightAsk()); e != x.e {
			t.Errorf("%v: %d, not %d", x.c, int(e), int(x.e))
		}
		// It is so, whatever is asked.
		for _, a := range []model.Ask{{}, {Prompt: []int{-1}, Limit: 1, K: 1}, {Prompt: []int{0}, Limit: 100, K: 1}} {
			if e := model.Check(x.c, a); x.e != api.OK && e != x.e {
				t.Errorf("%v, %v: %d, not %d", x.c, a, int(e), int(x.e))
			}
		}
	}
}

// TestCompleteOfWrongModels has all else be wrong, too.
func TestCompleteOfWrongModels(t *testing.T) { // P11.3, R1
	for what, x := range wrongModels() {
		w := made(middle, 31, one)
		x.turn(&w)
		for _, a := range []model.Ask{rightAsk(), {}, {Prompt: []int{7}, K: 1, Limit: 1}, {Prompt: []int{0}, K: 1, Limit: 9}} {
			if l, e := model.Complete(w, a); len(l) != 0 || e != x.e {
				t.Errorf("%s: %v %d, not %d", what, l, int(e), int(x.e))
			}
		}
	}
}

func TestAskWrong(t *testing.T) { // P11.3, R1
	w := made(middle, 32, one)
	for _, x := range []struct {
		what string
		turn func(a *model.Ask)
		e    api.Errno
	}{
		{"right", func(a *model.Ask) {}, api.OK},
		{"no prompt", func(a *model.Ask) { a.Prompt = nil }, api.ErrSize},
		{"a prompt of nothing", func(a *model.Ask) { a.Prompt = []int{} }, api.ErrSize},
		{"no Limit", func(a *model.Ask) { a.Limit = 0 }, api.ErrSize},
		{"a Limit below 0", func(a *model.Ask) { a.Limit = -1 }, api.ErrSize},
		{"the least Limit", func(a *model.Ask) { a.Limit = math.MinInt }, api.ErrSize},
		{"all of Ctx", func(a *model.Ask) { a.Limit = 6 }, api.OK},
		{"one more than Ctx", func(a *model.Ask) { a.Limit = 7 }, api.ErrLong},
		{"Ctx itself", func(a *model.Ask) { a.Limit = 9 }, api.ErrLong},
		{"the greatest Limit", func(a *model.Ask) { a.Limit = math.MaxInt }, api.ErrLong},
		{"a prompt of all but one of Ctx", func(a *model.Ask) { a.Prompt, a.Limit = make([]int, 8), 1 }, api.OK},
		{"a prompt of Ctx", func(a *model.Ask) { a.Prompt, a.Limit = make([]int, 9), 1 }, api.ErrLong},
		{"a prompt of more than Ctx", func(a *model.Ask) { a.Prompt, a.Limit = make([]int, 100), 1 }, api.ErrLong},
		{"a prompt of more than Ctx, and the greatest Limit", func(a *model.Ask) { a.Prompt, a.Limit = make([]int, 100), math.MaxInt }, api.ErrLong},
		{"the last token", func(a *model.Ask) { a.Prompt = []int{6} }, api.OK},
		{"the first token of the prompt is -1", func(a *model.Ask) { a.Prompt[0] = -1 }, api.ErrRange},
		{"the first token of the prompt is Vocab", func(a *model.Ask) { a.Prompt[0] = 7 }, api.ErrRange},
		{"the last token of the prompt is -1", func(a *model.Ask) { a.Prompt[2] = -1 }, api.ErrRange},
		{"the last token of the prompt is Vocab", func(a *model.Ask) { a.Prompt[2] = 7 }, api.ErrRange},
		{"a token of the prompt is far", func(a *model.Ask) { a.Prompt[1] = math.MinInt }, api.ErrRange},
		{"K of 0", func(a *model.Ask) { a.K = 0 }, api.ErrRange},
		{"K below 0", func(a *model.Ask) { a.K = -1 }, api.ErrRange},
		{"K of 1", func(a *model.Ask) { a.K = 1 }, api.OK},
		{"K of Vocab", func(a *model.Ask) { a.K = 7 }, api.OK},
		{"K of one more", func(a *model.Ask) { a.K = 8 }, api.ErrRange},
		{"the least K", func(a *model.Ask) { a.K = math.MinInt }, api.ErrRange},
		{"the greatest K", func(a *model.Ask) { a.K = math.MaxInt }, api.ErrRange},
		{"no prompt, and a Limit that is long", func(a *model.Ask) { a.Prompt, a.Limit = nil, 10 }, api.ErrSize},
		{"no prompt, and no K", func(a *model.Ask) { a.Prompt, a.K = nil, 0 }, api.ErrSize},
		{"no Limit, and a prompt that is long", func(a *model.Ask) { a.Prompt, a.Limit = make([]int, 10), 0 }, api.ErrSize},
		{"no Limit, and a token that is none", func(a *model.Ask) { a.Prompt[1], a.Limit = 7, -1 }, api.ErrSize},
		{"long, and a token that is none", func(a *model.Ask) { a.Prompt[0], a.Limit = -1, 7 }, api.ErrLong},
		{"long, and no K", func(a *model.Ask) { a.K, a.Limit = 0, 7 }, api.ErrLong},
		{"stops that are no tokens", func(a *model.Ask) { a.Stop = farNumbers() }, api.OK},
	} {
		a := rightAsk()
		x.turn(&a)
		if x.e != api.OK {
			refuseAsk(t, x.what, w, a, x.e)
			continue
		}
		if e := model.Check(middle, a); e != api.OK {
			t.Errorf("%s: Check: %d", x.what, int(e))
		}
		if l := holdComplete(t, w, a); len(l) != a.Limit {
			t.Errorf("%s: %v", x.what, l)
		}
	}
}

// TestCheckOfAny turns several things at once.
func TestCheckOfAny(t *testing.T) { // P11.3, R1
	chance := newChance(33)
	for range 5000 {
		c := someConfigs()[chance.IntN(len(someConfigs()))]
		if chance.IntN(10) == 0 {
			c.Heads = 7
		}
		a := model.Ask{Prompt: make([]int, chance.IntN(5)), K: 1 + chance.IntN(c.Vocab), Limit: chance.IntN(c.Ctx + 2)}
		for i := range a.Prompt {
			a.Prompt[i] = chance.IntN(c.Vocab)
			if chance.IntN(20) == 0 {
				a.Prompt[i] = farNumbers()[chance.IntN(len(farNumbers()))]
			}
		}
		for _, n := range []*int{&a.K, &a.Limit} {
			if chance.IntN(10) == 0 {
				*n = farNumbers()[chance.IntN(len(farNumbers()))]
			}
		}
		_, want := told(func() int { return tellCheck(c, a) })
		if e := model.Check(c, a); e != want {
			t.Fatalf("%v %v: %d, not %d", c, a, int(e), int(want))
		}
	}
}

func TestStop(t *testing.T) { // P11.3
	w := made(middle, 2, 2*one)
	// Without Stop, these are 4 0 1 6 5 2 0.
	a := model.Ask{Prompt: everyThird(2, 7), Seed: seedOf(1), K: 7, Limit: 7}
	for _, x := range []struct {
		stop  []int
		limit int
		l     []int
	}{
		{nil, 7, []int{4, 0, 1, 6, 5, 2, 0}}, {[]int{}, 7, []int{4, 0, 1, 6, 5, 2, 0}}, {[]int{3}, 7, []int{4, 0, 1, 6, 5, 2, 0}}, {[]int{-1, 7, 1 << 40}, 7, []int{4, 0, 1, 6, 5, 2, 0}},
		{[]int{4}, 7, []int{4}}, {[]int{0}, 7, []int{4, 0}}, {[]int{1}, 7, []int{4, 0, 1}}, {[]int{2}, 7, []int{4, 0, 1, 6, 5, 2}}, {[]int{2, 5}, 7, []int{4, 0, 1, 6, 5}}, {[]int{5, 2}, 7, []int{4, 0, 1, 6, 5}}, {[]int{6, 6, 3}, 7, []int{4, 0, 1, 6}},
		{[]int{0, 1, 2, 3, 4, 5, 6}, 7, []int{4}},
		// The last one of Limit is met, or not any more.
		{[]int{1}, 3, []int{4, 0, 1}}, {[]int{6}, 3, []int{4, 0, 1}}, {[]int{4}, 1, []int{4}}, {[]int{0}, 1, []int{4}}, {nil, 1, []int{4}},
	} {
		a.Stop, a.Limit = x.stop, x.limit
		if l, e := model.Complete(w, a); !slices.Equal(l, x.l) || e != api.OK {
			t.Errorf("Stop %v, Limit %d: %v %d, not %v", x.stop, x.limit, l, int(e), x.l)
		}
	}
	// A token of the prompt stops nothing.
	a.Stop, a.Limit, a.K = []int{1}, 7, 1
	if l := holdComplete(t, w, a); !slices.Equal(l, []int{0, 2, 4, 0, 0, 0, 0}) {
		t.Error(l)
	}
}

func TestLowerLimits(t *testing.T) { // P11.4
	for i, c := range someConfigs() {
		w := made(c, uint64(40+i), one)
		for _, k := range []int{1, min(2, c.Vocab), c.Vocab} {
			a := model.Ask{Prompt: []int{c.Vocab - 1}, Seed: seedOf(byte(i)), K: k, Limit: min(c.Ctx-1, 20)}
			all := holdComplete(t, w, a)
			if len(all) != a.Limit {
				t.Fatalf("%v: %v", c, all)
			}
			for n := 1; n <= len(all); n++ {
				a.Limit = n
				if l, e := model.Complete(w, a); !slices.Equal(l, all[:n]) || e != api.OK {
					t.Errorf("%v, Limit %d: %v %d, not %v", c, n, l, int(e), all[:n])
				}
			}
		}
	}
}

func TestSeeds(t *testing.T) { // P11.4
	w := made(middle, 2, 2*one)
	others := 0
	for _, k := range []int{1, 7} {
		a := model.Ask{Prompt: []int{1, 4}, K: k, Limit: 7}
		first := holdComplete(t, w, a)
		for b := range 20 {
			a.Seed = seedOf(byte(b))
			a.Seed[b] = 77
			if l := holdComplete(t, w, a); !slices.Equal(l, first) {
				others += k
			}
		}
	}
	if others < 7*15 || others%7 != 0 { // of K 1 none
		t.Error(others)
	}
}

// TestCompleteGoesOn: what comes behind a prompt is what comes behind it and the first tokens that came, with K 1.
func TestCompleteGoesOn(t *testing.T) { // P11.4
	w := made(middle, 2, 2*one)
	a := model.Ask{Prompt: []int{1, 4}, K: 1, Limit: 7}
	all := holdComplete(t, w, a)
	for n := range 7 {
		b := model.Ask{Prompt: slices.Concat(a.Prompt, all[:n]), K: 1, Limit: 7 - n}
		if l := holdComplete(t, w, b); !slices.Equal(l, all[n:]) {
			t.Errorf("%d: %v, not %v", n, l, all[n:])
		}
	}
}

// picky is a model that has an error of token 0 alone. Behind any other one token 0 is the most likely, and token 2 the next one.
func picky() weights.Weights {
	w := calm()
	w.Layers[1].Norm1 = slices.Repeat([]int{high}, 4)
	copy(w.Out.L, []int{one, one, one, one})
	copy(w.Out.L[8:], []int{one / 2, one, one, one})
	copy(w.Embed.L[8:], []int{2 * one, 2 * one, 2 * one, 2 * one})
	return w
}

// TestCompleteErrors has a token that brings an error, in the prompt and behind it.
func TestCompleteErrors(t *testing.T) { // P11.3, P11.4, R1
	w := picky()
	for _, x := range []struct {
		what   string
		prompt []int
		limit  int
		stop   []int
		l      []int
		e      api.Errno
	}{
		{"first", []int{0, 1}, 1, nil, nil, api.ErrOver}, {"last", []int{1, 0}, 1, nil, nil, api.ErrOver}, {"in the middle", []int{1, 0, 1}, 1, nil, nil, api.ErrOver},
		{"alone", []int{0}, 1, nil, nil, api.ErrOver},
		// Behind the last token that comes, nothing is asked for.
		{"that comes last", []int{1}, 1, nil, []int{0}, api.OK}, {"that comes, and goes on", []int{1}, 2, nil, nil, api.ErrOver}, {"that comes, and goes on for long", []int{1, 1}, 7, nil, nil, api.ErrOver},
		{"that stops", []int{1}, 8, []int{0}, []int{0}, api.OK}, {"that does not stop", []int{1}, 8, []int{1, 2, 3, 4, 5, 6}, nil, api.ErrOver},
	} {
		a := model.Ask{Prompt: x.prompt, K: 1, Limit: x.limit, Stop: x.stop}
		if l, e := model.Complete(w, a); !slices.Equal(l, x.l) || e != x.e {
			t.Errorf("%s: %v %d, not %v %d", x.what, l, int(e), x.l, int(x.e))
		}
		holdComplete(t, w, a)
	}
	// With other seeds, other tokens come ahead of it.
	lengths := map[int]int{}
	for b := range byte(30) {
		a := model.Ask{Prompt: []int{1}, Seed: seedOf(b), K: 2, Limit: 8, Stop: []int{0}}
		l := holdComplete(t, w, a)
		lengths[len(l)]++
		if n := len(l); n > 0 && n < 8 {
			a.Stop = nil
			a.Limit = n + 1
			if l, e := model.Complete(w, a); len(l) != 0 || e != api.ErrOver {
				t.Errorf("%d: %v %d", b, l, int(e))
			}
		}
	}
	if len(lengths) < 3 {
		t.Error(lengths)
	}
}

// TestCompleteAsksForAllNumbers: also those behind a prompt's first tokens bring their error, which nobody looks at else.
func TestCompleteAsksForAllNumbers(t *testing.T) { // P11.3, R1
	w := calm()
	w.Norm = slices.Repeat([]int{high}, 4)
	for _, x := range []struct {
		prompt []int
		e      api.Errno
	}{{[]int{0, 1}, api.ErrOver}, {[]int{1, 0, 1, 1}, api.ErrOver}, {[]int{1, 1}, api.OK}, {[]int{1}, api.OK}} {
		a := model.Ask{Prompt: x.prompt, K: 1, Limit: 1}
		if l, e := model.Complete(w, a); (len(l) == 1) != (x.e == api.OK) || e != x.e {
			t.Errorf("%v: %v %d, not %d", x.prompt, l, int(e), int(x.e))
		}
		holdComplete(t, w, a)
	}
}

// TestCompleteOfTheGreatest fills the greatest model there may be.
func TestCompleteOfTheGreatest(t *testing.T) { // P11.3
	c := weights.Config{Vocab: 512, Dim: 64, Heads: 8, Layers: 4, Ctx: 64, Hidden: 64}
	w := made(c, 5, one/4)
	a := model.Ask{Prompt: []int{1, 4}, Seed: seedOf(2), K: 3, Limit: 62}
	// Another program has worked these out.
	want := []int{160, 9, 347, 335, 85, 168, 85, 85, 85, 168, 168, 291, 195, 72, 195, 347, 356, 347, 195, 401, 401, 347, 356, 85, 347, 347, 356, 85, 168, 85, 85, 347, 356, 85, 347, 195, 347, 347, 195, 401, 401, 401, 334, 347, 356, 347, 347, 347, 195, 347, 195, 347, 356, 347, 195, 347, 356, 366, 168, 85, 347, 356}
	if l, e := model.Complete(w, a); !slices.Equal(l, want) || e != api.OK {
		t.Errorf("%v %d", l, int(e))
	}
}
