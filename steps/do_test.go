package steps_test

import (
	"fmt"
	"math"
	"math/rand/v2"
	"slices"
	"testing"

	"cupel/api"
	"cupel/draw"
	"cupel/steps"
)

// TestDoTold has answers that were worked out by hand, or by another program. The plan has heads of two numbers, and seven places.
func TestDoTold(t *testing.T) { // P12.3
	p := right()
	scores := []int{3 * one, one, 4 * one, one, 5 * one, 0, 2 * one}
	kinds := map[int]bool{}
	for _, x := range []struct {
		s      steps.Step
		reads  [][]int
		weight []int
		l      []int
	}{
		{steps.Step{Kind: steps.Load, At: 2}, [][]int{{0, 0, 0, 6, -1, -1, -1, -1, -1}}, []int{1, -2, maxWeight, 3}, []int{1, -2, maxWeight, 3}},
		{steps.Step{Kind: steps.NormA}, [][]int{{one, -one, 2 * one, 0}}, []int{one, one, 2 * one, -one}, []int{53509, -53510, 214038, 0}},
		{steps.Step{Kind: steps.NormB, At: 6, Layer: 2}, [][]int{{5, -7, 1, 300}}, []int{one, one, -3 * one, one / 2}, []int{1280, -1792, -768, 38400}},
		{steps.Step{Kind: steps.NormC, At: 1}, [][]int{{one, -one, 2 * one, 0}}, []int{one, one, 2 * one, -one}, []int{53509, -53510, 214038, 0}},
		{steps.Step{Kind: steps.QueryRow, Row: 1}, [][]int{{one, 2 * one, 3, -one}, {1, 2, 3, 4}}, []int{one, one / 2, 0, -one}, []int{1, 3 * one, 3, 4}},
		{steps.Step{Kind: steps.KeyRow, At: 3, Layer: 2, Row: 3}, [][]int{{1, 0, 0, 0}, {1, 2, 3, 4}}, []int{one / 2, 7, 7, 7}, []int{1, 2, 3, 1}},
		{steps.Step{Kind: steps.ValueRow, Row: 0}, [][]int{{-1, 0, 0, 0}, {1, 2, 3, 4}}, []int{one / 2, 7, 7, 7}, []int{0, 2, 3, 4}},
		{steps.Step{Kind: steps.Turn, At: 1}, [][]int{{one, 0, one, 0}}, nil, []int{39322, 52429, 39322, 52429}},
		{steps.Step{Kind: steps.Turn}, [][]int{{1, 2, 3, 4}}, nil, []int{1, 2, 3, 4}},
		{steps.Step{Kind: steps.Turn, At: 6, Layer: 1}, [][]int{{1000, -70000, 123456, -654321}}, nil, []int{-45377, -53314, -338320, -573543}},
		{steps.Step{Kind: steps.PutKey, At: 2}, [][]int{{one, 0, -3 * one, one / 2}}, nil, []int{-18350, 62916, 23592, -197923}},
		{steps.Step{Kind: steps.PutKey}, [][]int{{4, 3, 2, 1}}, nil, []int{4, 3, 2, 1}},
		{steps.Step{Kind: steps.PutValue, At: 2}, [][]int{{one, 0, -3 * one, 7}}, nil, []int{one, 0, -3 * one, 7}},
		{steps.Step{Kind: steps.Near, At: 3, Head: 1, Row: 2}, [][]int{{9, 9, one, 0}, {7, 7, 2 * one, 5 * one}, {1, 2, 3, 4, 5, 6, 7}}, nil, []int{1, 2, 92682, 4, 5, 6, 7}},
		{steps.Step{Kind: steps.Near, At: 6, Head: 0, Row: 6}, [][]int{{-3 * one, 7, 9, 9}, {one / 3, 100 * one, 9, 9}, {1, 2, 3, 4, 5, 6, 7}}, nil, []int{1, 2, 3, 4, 5, 6, -45846}},
		{steps.Step{Kind: steps.Share, At: 1, Head: 1}, [][]int{{7, 7, 99, 1, 2, 3, 4}}, nil, []int{one / 2, one / 2, 99, 1, 2, 3, 4}},
		{steps.Step{Kind: steps.Share}, [][]int{{-5, 7, 99, 1, 2, 3, 4}}, nil, []int{one, 7, 99, 1, 2, 3, 4}},
		{steps.Step{Kind: steps.Share, At: 2}, [][]int{{0, one, -one, 1, 2, 3, 4}}, nil, []int{16038, 43597, 5900, 1, 2, 3, 4}},
		{steps.Step{Kind: steps.Share, At: 6}, [][]int{{5 * one, 0, 0, -3 * one, one, 2 * one, 4 * one}}, nil, []int{45204, 304, 304, 15, 827, 2250, 16629}},
		{steps.Step{Kind: steps.Mix, At: 1, Head: 1}, [][]int{{one / 2, one / 2, 5, 5, 5, 5, 5}, {1, 2, 3, 4}, {9, 9, 1, 2}, {9, 9, 3, 4}}, nil, []int{1, 2, 2, 3}},
		{steps.Step{Kind: steps.Mix, At: 2}, [][]int{{10000, 50000, 5536, 5, 5, 5, 5}, {1, 2, 3, 4}, {100000, -100000, 9, 9}, {3, 7, 9, 9}, {one, one, 9, 9}}, nil, []int{20797, -9717, 3, 4}},
		{steps.Step{Kind: steps.OutputRow, Row: 2}, [][]int{{1, 2, 3, 4}, {5, 6, 7, 8}}, []int{one, one, one, one}, []int{5, 6, 10, 8}},
		{steps.Step{Kind: steps.AddA}, [][]int{{1, 2, 3, high}, {5, -6, 7, -8}}, nil, []int{6, -4, 10, high - 8}},
		{steps.Step{Kind: steps.GateRow, Row: 4}, [][]int{{1, 2, 3, 4}, {5, 6, 7, 8, 9}}, []int{-one, 0, 0, one}, []int{5, 6, 7, 8, 3}},
		{steps.Step{Kind: steps.Open}, [][]int{{one, 0, -one, 3 * one, -2}}, nil, []int{47910, 0, -17626, 187281, -1}},
		{steps.Step{Kind: steps.UpRow}, [][]int{{1, 2, 3, 4}, {5, 6, 7, 8, 9}}, []int{0, -one, 0, 0}, []int{-2, 6, 7, 8, 9}},
		{steps.Step{Kind: steps.Times}, [][]int{{98304, 1, -1, one, 0}, {131072, one / 2, one / 2, -7, 9}}, nil, []int{196608, 1, 0, -7, 0}},
		{steps.Step{Kind: steps.DownRow, Row: 3}, [][]int{{1, 2, 3, 4, 5}, {6, 7, 8, 9}}, []int{one, 0, one, 0, one}, []int{6, 7, 8, 9}},
		{steps.Step{Kind: steps.DownRow, Row: 0}, [][]int{{1, 2, 3, 4, 5}, {6, 7, 8, 9}}, []int{one, 0, 0, one, one}, []int{10, 7, 8, 9}},
		{steps.Step{Kind: steps.AddB, At: 5, Layer: 1}, [][]int{{1, 2, 3, low}, {5, -6, 7, 8}}, nil, []int{6, -4, 10, low + 8}},
		{steps.Step{Kind: steps.OutRow, At: 1, Row: 6}, [][]int{{1, 2, 3, 4}, {5, 6, 7, 8, 9, 10, 11}}, []int{0, 0, 0, maxWeight}, []int{5, 6, 7, 8, 9, 10, 1024}},
		{steps.Step{Kind: steps.Pick, At: 2}, [][]int{scores, {1, 0, 1, 2, -1, -1, -1, -1, -1}}, nil, []int{2, 0, 1, 2, 2, -1, -1, -1, -1}},
		{steps.Step{Kind: steps.Pick, At: 6}, [][]int{scores, {5, 0, 1, 2, 3, 4, 5, 6, -1}}, nil, []int{6, 0, 1, 2, 3, 4, 5, 6, 4}},
		{steps.Step{Kind: steps.Pick, At: 4}, [][]int{scores, {math.MaxInt - 1, -9, 99, 2, 3, 4, 5, 6, 7}}, nil, []int{math.MaxInt, -9, 99, 2, 3, 4, 2, 6, 7}},
	} {
		if l, e := p.Do(x.s, x.reads, x.weight, seedOf(2)); !slices.Equal(l, x.l) || e != api.OK {
			t.Errorf("%v: %v %d, not %v", x.s, l, int(e), x.l)
		}
		holdDo(t, boardOf(p), x.s, x.reads, x.weight, seedOf(2))
		kinds[x.s.Kind] = true
	}
	if len(kinds) != steps.Pick {
		t.Errorf("%d kinds", len(kinds))
	}
}

// holdDo holds Do against what is told here.
func holdDo(t *testing.T, b *board, s steps.Step, reads [][]int, weight []int, seed api.Digest) api.Errno {
	t.Helper()
	want, wrong := told(func() []int { return b.tellDo(s, reads, weight, seed) })
	l, e := b.Do(s, reads, weight, seed)
	if !slices.Equal(l, want) || e != wrong {
		t.Errorf("%v, %v: Do %v %v: %v %d, not %v %d", b.Plan, s, reads, weight, l, int(e), want, int(wrong))
	}
	return e
}

// task is a step, and what it is done with.
type task struct {
	s      steps.Step
	reads  [][]int
	weight []int
	seed   api.Digest
}

// anyTask is a step of the plan with what fits it.
func anyTask(c *rand.Rand, b *board, s steps.Step, some func(many int) []int) task {
	x := task{s: s, weight: some(b.weightSize(s)), seed: seedOf(byte(c.IntN(256)))}
	for _, cell := range b.lineOf(s).reads {
		l := some(b.sizes[cell])
		switch {
		case cell == steps.Tokens:
			l[0] = c.IntN(1000)
			for i := range l[1:] {
				l[i+1] = c.IntN(b.Config.Vocab)
			}
		case s.Kind == steps.Mix && cell == steps.S:
			for i := range l {
				l[i] = c.IntN(one + 1)
			}
		}
		x.reads = append(x.reads, l)
	}
	return x
}

// TestDoOfAny has all steps, with numbers of all lengths.
func TestDoOfAny(t *testing.T) { // P12.3
	chance := newChance(10)
	errors := map[api.Errno]map[int]bool{api.OK: {}, api.ErrOver: {}}
	for _, p := range somePlans() {
		b := boardOf(p)
		for _, s := range b.l {
			bits := 3 + chance.IntN(29)
			x := anyTask(chance, b, s, func(many int) []int { return numbers(chance, many, bits) })
			for i := range x.weight {
				x.weight[i] = min(max(x.weight[i]>>2, -maxWeight), maxWeight)
			}
			e := holdDo(t, b, s, x.reads, x.weight, x.seed)
			if errors[e] == nil {
				t.Fatalf("%v: %v: %d", p, x, int(e))
			}
			errors[e][s.Kind] = true
		}
	}
	if len(errors[api.OK]) != steps.Pick || len(errors[api.ErrOver]) < 14 {
		t.Error(len(errors[api.OK]), len(errors[api.ErrOver]))
	}
}

// TestDoOfAnyInts has numbers that are none among the others, and cells and weights that do not fit.
func TestDoOfAnyInts(t *testing.T) { // P12.3, R1
	chance := newChance(11)
	errors := map[api.Errno]int{}
	some := func(many int) []int {
		l := numbers(chance, many, 20)
		for i := range l {
			if chance.IntN(3*many) == 0 {
				l[i] = notNumbers()[chance.IntN(5)]
			}
		}
		return l
	}
	for _, p := range somePlans() {
		b := boardOf(p)
		for range 1500 {
			s := b.l[chance.IntN(len(b.l))]
			x := anyTask(chance, b, s, some)
			if chance.IntN(4) == 0 {
				l := neighbours(s)
				x.s = l[chance.IntN(len(l))]
			}
			if chance.IntN(4) == 0 {
				x.weight = some(chance.IntN(len(x.weight) + 2))
			}
			if i := chance.IntN(len(x.reads)); chance.IntN(4) == 0 {
				x.reads[i] = some(chance.IntN(len(x.reads[i]) + 2))
			}
			if chance.IntN(8) == 0 {
				x.reads = x.reads[:chance.IntN(len(x.reads))]
			}
			errors[holdDo(t, b, x.s, x.reads, x.weight, x.seed)]++
		}
	}
	for _, e := range []api.Errno{api.OK, api.ErrRange, api.ErrForm} {
		if errors[e] < 200 {
			t.Error(errors)
		}
	}
}

// TestDoFits has a cell too few, one too many, cells and weights of another size.
func TestDoFits(t *testing.T) { // P12.3, R1
	for _, p := range []steps.Plan{right(), example(), {Config: wide, Prompt: 2, Limit: 2, K: 3}} {
		b := boardOf(p)
		for _, s := range b.l {
			if s.At > 0 && s.At < p.Places()-1 || s.Row > 0 && s.Kind != steps.Near {
				continue
			}
			reads, weight := emptyCells(b, s), make([]int, b.weightSize(s))
			refuse := func(what string, reads [][]int, weight []int) {
				t.Helper()
				if l, e := p.Do(s, reads, weight, api.Digest{}); len(l) != 0 || e != api.ErrForm {
					t.Errorf("%v, %v: %s: %v %d", p, s, what, l, int(e))
				}
			}
			if l, e := p.Do(s, reads, weight, api.Digest{}); len(l) != b.sizes[b.lineOf(s).writes] || e != api.OK {
				t.Fatalf("%v, %v: %v %d", p, s, l, int(e))
			}
			refuse("no cells", nil, weight)
			refuse("a cell too few", reads[1:], weight)
			refuse("the last cell too few", reads[:len(reads)-1], weight)
			refuse("a cell too many", append(slices.Clone(reads), reads[0]), weight)
			refuse("a cell of nothing too many", append(slices.Clone(reads), nil), weight)
			for i := range reads {
				for _, size := range []int{0, 1, len(reads[i]) - 1, len(reads[i]) + 1, 2 * len(reads[i]), 600} {
					if size == len(reads[i]) {
						continue
					}
					other := slices.Clone(reads)
					other[i] = make([]int, size)
					refuse(fmt.Sprintf("cell %d of %d numbers", i, size), other, weight)
				}
			}
			for _, size := range []int{0, 1, len(weight) - 1, len(weight) + 1, b.Config.Dim, b.Config.Hidden, 600} {
				if size >= 0 && size != len(weight) {
					refuse(fmt.Sprintf("a weight of %d numbers", size), reads, make([]int, size))
				}
			}
		}
	}
}

// TestDoFirst has several errors at once.
func TestDoFirst(t *testing.T) { // P12.3, R1
	p := right()
	b := boardOf(p)
	for _, s := range b.l {
		if s.At != 2 || s.Row > 1 {
			continue
		}
		x := anyTask(newChance(12), b, s, func(many int) []int { return slices.Repeat([]int{high + 1}, many) })
		// A step that is none comes ahead of cells that do not fit, and these ahead of numbers that are none.
		none := s
		none.At = 7
		if l, e := p.Do(none, x.reads[1:], x.weight, x.seed); len(l) != 0 || e != api.ErrRange {
			t.Errorf("%v: %v %d", none, l, int(e))
		}
		if l, e := p.Do(s, x.reads[1:], x.weight, x.seed); len(l) != 0 || e != api.ErrForm {
			t.Errorf("%v: no first cell: %v %d", s, l, int(e))
		}
		if l, e := p.Do(s, x.reads, append(x.weight, 0), x.seed); len(l) != 0 || e != api.ErrForm {
			t.Errorf("%v: a weight too many: %v %d", s, l, int(e))
		}
		last := slices.Clone(x.reads)
		last[len(last)-1] = last[len(last)-1][1:]
		if l, e := p.Do(s, last, x.weight, x.seed); len(l) != 0 || e != api.ErrForm {
			t.Errorf("%v: a number too few: %v %d", s, l, int(e))
		}
		e := holdDo(t, b, s, x.reads, x.weight, x.seed)
		if want := map[bool]api.Errno{false: api.ErrRange, true: api.OK}[s.Kind == steps.Load || s.Kind == steps.PutValue]; e != want {
			t.Errorf("%v: %d, not %d", s, int(e), int(want))
		}
	}
	// Of Pick, a count below 0 comes ahead of numbers that are none, and behind a step that is none.
	pick := steps.Step{Kind: steps.Pick, At: 2}
	none := slices.Repeat([]int{low - 1}, 7)
	for _, count := range []int{-1, math.MinInt} {
		reads := [][]int{none, {count, 0, 0, 0, -1, -1, -1, -1, -1}}
		if l, e := p.Do(pick, reads, nil, api.Digest{}); len(l) != 0 || e != api.ErrForm {
			t.Errorf("%d: %v %d", count, l, int(e))
		}
		if l, e := p.Do(steps.Step{Kind: steps.Pick, At: 1}, reads, nil, api.Digest{}); len(l) != 0 || e != api.ErrRange {
			t.Errorf("%d: %v %d", count, l, int(e))
		}
		reads[0] = make([]int, 7)
		if l, e := p.Do(pick, reads, nil, api.Digest{}); len(l) != 0 || e != api.ErrForm {
			t.Errorf("%d: %v %d", count, l, int(e))
		}
	}
	// With K 1 nothing is drawn, and still a count below 0 does not fit.
	p.K = 1
	if l, e := p.Do(pick, [][]int{make([]int, 7), {-1, 0, 0, 0, 0, 0, 0, 0, 0}}, nil, api.Digest{}); len(l) != 0 || e != api.ErrForm {
		t.Error(l, int(e))
	}
}

// TestDoErrors has each kind of steps come to each of its errors, by numbers that fit.
func TestDoErrors(t *testing.T) { // P12.3, R1
	p := right()
	ok, four, five, seven := []int{one, one, one, one}, []int{1, 2, 3, 4}, []int{1, 2, 3, 4, 5}, []int{1, 2, 3, 4, 5, 6, 7}
	over, none := []int{1, 2, 3, high}, []int{1, 2, 3, high + 1}
	far, heavy := slices.Repeat([]int{high}, 4), slices.Repeat([]int{maxWeight}, 4)
	tokens := []int{0, 0, 0, 0, -1, -1, -1, -1, -1}
	for _, x := range []struct {
		what   string
		s      steps.Step
		reads  [][]int
		weight []int
		e      api.Errno
	}{
		{"NormA of what is no number", steps.Step{Kind: steps.NormA}, [][]int{none}, ok, api.ErrRange},
		{"NormA of weights that are no numbers", steps.Step{Kind: steps.NormA}, [][]int{four}, none, api.ErrRange},
		{"NormB over", steps.Step{Kind: steps.NormB}, [][]int{{one, 0, 0, 0}}, far, api.ErrOver},
		{"NormC over", steps.Step{Kind: steps.NormC}, [][]int{{one, 0, 0, 0}}, far, api.ErrOver},
		{"NormC of weights beyond those of a matrix", steps.Step{Kind: steps.NormC}, [][]int{{0, 0, 0, 0}}, far, api.OK},
		{"QueryRow of what is no number", steps.Step{Kind: steps.QueryRow}, [][]int{none, four}, ok, api.ErrRange},
		{"QueryRow of what is no weight", steps.Step{Kind: steps.QueryRow}, [][]int{four, four}, []int{0, 0, 0, maxWeight + 1}, api.ErrRange},
		{"QueryRow of the greatest weight", steps.Step{Kind: steps.QueryRow}, [][]int{four, four}, []int{0, 0, 0, maxWeight}, api.OK},
		{"QueryRow over", steps.Step{Kind: steps.QueryRow}, [][]int{far, four}, heavy, api.ErrOver},
		{"QueryRow beside what is no number", steps.Step{Kind: steps.QueryRow}, [][]int{four, none}, ok, api.OK},
		{"KeyRow over", steps.Step{Kind: steps.KeyRow}, [][]int{far, four}, heavy, api.ErrOver},
		{"ValueRow over", steps.Step{Kind: steps.ValueRow}, [][]int{far, four}, heavy, api.ErrOver},
		{"Turn of what is no number, in the first head", steps.Step{Kind: steps.Turn, At: 1}, [][]int{{low - 1, 0, far[0], far[0]}}, nil, api.ErrRange},
		{"Turn over in the first head, of what is no number in the second one", steps.Step{Kind: steps.Turn, At: 1}, [][]int{{far[0], far[0], low - 1, 0}}, nil, api.ErrOver},
		{"Turn over in the second head", steps.Step{Kind: steps.Turn, At: 1}, [][]int{{0, 0, far[0], far[0]}}, nil, api.ErrOver},
		{"Turn of the greatest numbers by nothing", steps.Step{Kind: steps.Turn}, [][]int{far}, nil, api.OK},
		{"PutKey over", steps.Step{Kind: steps.PutKey, At: 1}, [][]int{far}, nil, api.ErrOver},
		{"PutKey of what is no number", steps.Step{Kind: steps.PutKey}, [][]int{none}, nil, api.ErrRange},
		{"PutValue of what is no number", steps.Step{Kind: steps.PutValue}, [][]int{none}, nil, api.OK},
		{"Near over", steps.Step{Kind: steps.Near}, [][]int{far, far, seven}, nil, api.ErrOver},
		{"Near of what is no number", steps.Step{Kind: steps.Near}, [][]int{four, {0, low - 1, 0, 0}, seven}, nil, api.ErrRange},
		{"Near of what is no number, in the other head", steps.Step{Kind: steps.Near}, [][]int{none, none, seven}, nil, api.OK},
		{"Near of what is no number, in the same head", steps.Step{Kind: steps.Near, Head: 1}, [][]int{none, four, seven}, nil, api.ErrRange},
		{"Near beside what is no number", steps.Step{Kind: steps.Near, At: 1}, [][]int{four, four, {high + 1, high + 1, low - 1, 0, 0, 0, 0}}, nil, api.OK},
		{"Share of what is no number", steps.Step{Kind: steps.Share, At: 2}, [][]int{{0, 0, high + 1, 0, 0, 0, 0}}, nil, api.ErrRange},
		{"Share of what is no number, one further", steps.Step{Kind: steps.Share, At: 2}, [][]int{{0, 0, 0, high + 1, 0, 0, 0}}, nil, api.OK},
		{"Mix of no share", steps.Step{Kind: steps.Mix, At: 1}, [][]int{{0, one + 1, 0, 0, 0, 0, 0}, four, four, four}, nil, api.ErrRange},
		{"Mix of a share below 0", steps.Step{Kind: steps.Mix, At: 1}, [][]int{{-1, 0, 0, 0, 0, 0, 0}, four, four, four}, nil, api.ErrRange},
		{"Mix of no share, one further", steps.Step{Kind: steps.Mix, At: 1}, [][]int{{0, one, -1, 0, 0, 0, 0}, four, four, four}, nil, api.OK},
		{"Mix of what is no number", steps.Step{Kind: steps.Mix, At: 1, Head: 1}, [][]int{{0, 0, 0, 0, 0, 0, 0}, four, four, none}, nil, api.ErrRange},
		{"Mix of what is no number, in the other head", steps.Step{Kind: steps.Mix, At: 1}, [][]int{{0, 0, 0, 0, 0, 0, 0}, none, four, none}, nil, api.OK},
		{"Mix over", steps.Step{Kind: steps.Mix, At: 1}, [][]int{{one, one, 0, 0, 0, 0, 0}, four, far, far}, nil, api.ErrOver},
		{"OutputRow over", steps.Step{Kind: steps.OutputRow}, [][]int{far, four}, heavy, api.ErrOver},
		{"AddA over", steps.Step{Kind: steps.AddA}, [][]int{over, four}, nil, api.ErrOver},
		{"AddA of what is no number", steps.Step{Kind: steps.AddA}, [][]int{over, none}, nil, api.ErrRange},
		{"AddB over", steps.Step{Kind: steps.AddB}, [][]int{over, four}, nil, api.ErrOver},
		{"GateRow over", steps.Step{Kind: steps.GateRow}, [][]int{far, five}, heavy, api.ErrOver},
		{"Open of what is no number", steps.Step{Kind: steps.Open}, [][]int{{high, low, 0, 0, low - 1}}, nil, api.ErrRange},
		{"Open of the greatest and the least", steps.Step{Kind: steps.Open}, [][]int{{high, low, 0, 0, low}}, nil, api.OK},
		{"UpRow over", steps.Step{Kind: steps.UpRow}, [][]int{far, five}, heavy, api.ErrOver},
		{"Times over, ahead of what is no number", steps.Step{Kind: steps.Times}, [][]int{{0, high, 0, 0, low - 1}, {0, 2 * one, 0, 0, 0}}, nil, api.ErrOver},
		{"Times over, behind what is no number", steps.Step{Kind: steps.Times}, [][]int{{0, high, 0, 0, 0}, {low - 1, 2 * one, 0, 0, 0}}, nil, api.ErrRange},
		{"DownRow over", steps.Step{Kind: steps.DownRow}, [][]int{slices.Repeat([]int{high}, 5), four}, slices.Repeat([]int{maxWeight}, 5), api.ErrOver},
		{"OutRow over", steps.Step{Kind: steps.OutRow}, [][]int{far, seven}, heavy, api.ErrOver},
		{"Pick of what is no number", steps.Step{Kind: steps.Pick, At: 2}, [][]int{{0, 0, 0, 0, 0, 0, low - 1}, tokens}, nil, api.ErrRange},
		{"Pick of a stream that stands at its end", steps.Step{Kind: steps.Pick, At: 2}, [][]int{seven, {math.MaxInt, 0, 0, 0, 0, 0, 0, 0, 0}}, nil, api.ErrOver},
		{"Load of what is no weight", steps.Step{Kind: steps.Load}, [][]int{tokens}, []int{maxWeight + 1, high + 1, math.MinInt, 0}, api.OK},
	} {
		l, e := p.Do(x.s, x.reads, x.weight, api.Digest{})
		if e != x.e || (len(l) == 0) != (e != api.OK) {
			t.Errorf("%s: %v %d, not %d", x.what, l, int(e), int(x.e))
		}
		holdDo(t, boardOf(p), x.s, x.reads, x.weight, api.Digest{})
	}
}

// TestPick has the token and the count be those of a stream that goes on.
func TestPick(t *testing.T) { // P12.3
	chance := newChance(13)
	for _, k := range []int{1, 2, 3, 6, 7} {
		p := right()
		p.K = k
		for seed := range byte(10) {
			stream, _ := draw.New(seedOf(seed), 0)
			tokens := []int{0, 1, 2, 3, -1, -1, -1, -1, -1}
			for at := 2; at < 7; at++ {
				l := numbers(chance, 7, 17)
				want, _ := stream.Pick(l, k)
				turned, e := p.Do(steps.Step{Kind: steps.Pick, At: at}, [][]int{l, tokens}, nil, seedOf(seed))
				if e != api.OK || turned[at+2] != want || turned[0] != stream.Count() {
					t.Fatalf("K %d at %d: %v %d, not %d %d", k, at, turned, int(e), want, stream.Count())
				}
				if rest := slices.Concat(turned[1:at+2], turned[at+3:]); !slices.Equal(rest, slices.Concat(tokens[1:at+2], tokens[at+3:])) {
					t.Fatalf("K %d at %d: other tokens: %v", k, at, turned)
				}
				tokens = turned
			}
			if k == 1 && tokens[0] != 0 || k > 1 && tokens[0] < 5 {
				t.Errorf("K %d: the stream is at %d", k, tokens[0])
			}
		}
	}
	// With K 1 it is the first one of the greatest, wherever the stream stands.
	p := right()
	p.K = 1
	for _, count := range []int{0, 7, math.MaxInt} {
		l, e := p.Do(steps.Step{Kind: steps.Pick, At: 2}, [][]int{{3, 9, 9, 1, 9, 0, 0}, {count, 0, 0, 0, 0, 0, 0, 0, 0}}, nil, seedOf(1))
		if !slices.Equal(l, []int{count, 0, 0, 0, 1, 0, 0, 0, 0}) || e != api.OK {
			t.Error(l, int(e))
		}
	}
}

// TestSeedCountsForPickAlone has all steps with several seeds.
func TestSeedCountsForPickAlone(t *testing.T) { // P12.3, R3
	chance := newChance(14)
	b := boardOf(right())
	others := 0
	for _, s := range b.l {
		x := anyTask(chance, b, s, func(many int) []int { return numbers(chance, many, 17) })
		want, e := b.Do(s, x.reads, x.weight, seedOf(0))
		for seed := range byte(5) {
			l, other := b.Do(s, x.reads, x.weight, seedOf(seed))
			if same := slices.Equal(l, want) && e == other; !same && s.Kind != steps.Pick {
				t.Fatalf("%v: seed %d: %v %d, not %v %d", s, seed, l, int(other), want, int(e))
			} else if !same {
				others++
			}
		}
	}
	if others == 0 {
		t.Error("no seed counts")
	}
}

// TestDoLeavesTheRest has a step turn just those numbers of its cell that it tells of, also where the others are no numbers.
func TestDoLeavesTheRest(t *testing.T) { // P12.3, P12.5
	chance := newChance(15)
	b := boardOf(right())
	for _, s := range b.l {
		first, many := s.Row, 1
		switch s.Kind {
		case steps.QueryRow, steps.KeyRow, steps.ValueRow, steps.Near, steps.OutputRow, steps.GateRow, steps.UpRow, steps.DownRow, steps.OutRow:
		case steps.Share:
			first, many = 0, s.At+1
		case steps.Mix:
			first, many = 2*s.Head, 2
		default:
			continue
		}
		x := anyTask(chance, b, s, func(many int) []int { return numbers(chance, many, 12) })
		which := slices.Index(b.lineOf(s).reads, b.lineOf(s).writes)
		want, e := b.Do(s, x.reads, x.weight, x.seed)
		for i := range x.reads[which] {
			if i < first || i >= first+many {
				x.reads[which][i] = []int{math.MinInt, math.MaxInt, high + 1, -5}[chance.IntN(4)]
				want[i] = x.reads[which][i]
			}
		}
		if l, other := b.Do(s, x.reads, x.weight, x.seed); !slices.Equal(l, want) || e != api.OK || other != api.OK {
			t.Fatalf("%v: %v %d %d, not %v", s, l, int(e), int(other), want)
		}
	}
}
