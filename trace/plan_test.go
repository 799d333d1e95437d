package trace_test

import (
	"math"
	"slices"
	"testing"

	"cupel/api"
	"cupel/steps"
	"cupel/trace"
	"cupel/weights"
)

// somePlans is plans of all kinds that may be.
func somePlans() []steps.Plan {
	return []steps.Plan{
		{Config: least, Prompt: 1, Limit: 1, K: 1}, {Config: small, Prompt: 1, Limit: 7, K: 2}, {Config: small, Prompt: 7, Limit: 1, K: 5},
		{Config: middle, Prompt: 3, Limit: 5, K: 3}, {Config: middle, Prompt: 8, Limit: 1, K: 1}, {Config: wide, Prompt: 4, Limit: 3, K: 12},
		{Config: deep, Prompt: 2, Limit: 4, K: 6}, {Config: thick, Prompt: 2, Limit: 1, K: 33},
	}
}

// noPlan is a plan that may not be, and why.
type noPlan struct {
	steps.Plan
	e api.Errno
}

func noPlans() []noPlan {
	heads := middle
	heads.Heads = 3
	short := middle
	short.Ctx = 7
	return []noPlan{
		{steps.Plan{}, api.ErrRange}, {steps.Plan{Config: weights.Config{Vocab: 513, Dim: 2, Heads: 1, Layers: 1, Ctx: 2, Hidden: 1}, Prompt: 1, Limit: 1, K: 1}, api.ErrRange},
		{steps.Plan{Config: heads, Prompt: 3, Limit: 5, K: 3}, api.ErrSize}, {steps.Plan{Config: short, Prompt: 3, Limit: 5, K: 3}, api.ErrLong},
		{steps.Plan{Config: middle, Prompt: 0, Limit: 5, K: 3}, api.ErrSize}, {steps.Plan{Config: middle, Prompt: -1, Limit: 5, K: 3}, api.ErrSize}, {steps.Plan{Config: middle, Prompt: math.MinInt, Limit: 5, K: 3}, api.ErrSize},
		{steps.Plan{Config: middle, Prompt: 3, Limit: 0, K: 3}, api.ErrSize}, {steps.Plan{Config: middle, Prompt: 3, Limit: 7, K: 3}, api.ErrLong}, {steps.Plan{Config: middle, Prompt: math.MaxInt, Limit: math.MaxInt, K: 3}, api.ErrLong},
		{steps.Plan{Config: middle, Prompt: 3, Limit: 5, K: 0}, api.ErrRange}, {steps.Plan{Config: middle, Prompt: 3, Limit: 5, K: 8}, api.ErrRange},
		// Which one comes first, of two.
		{steps.Plan{Config: heads, Prompt: 3, Limit: 50, K: 3}, api.ErrSize}, {steps.Plan{Config: middle, Prompt: 0, Limit: 50, K: 0}, api.ErrSize}, {steps.Plan{Config: middle, Prompt: 9, Limit: 5, K: 0}, api.ErrLong},
	}
}

// TestTouchedTold has a step of each kind, of a plan of seven places and three layers, so that a layer's keys and values are fourteen cells.
func TestTouchedTold(t *testing.T) { // P15.2
	p := steps.Plan{Config: middle, Prompt: 3, Limit: 5, K: 3}
	// What stands ahead of layer 1 at place 2: two places, and of this one Load and a layer.
	first := map[steps.Step]int{}
	for i, s := range slices.Collect(p.Steps()) {
		first[s] = i
	}
	for _, x := range []struct {
		s    steps.Step
		want []int
	}{
		{steps.Step{Kind: steps.Load, At: 2}, []int{steps.Tokens, steps.X}},
		{steps.Step{Kind: steps.NormA, At: 2, Layer: 1}, []int{steps.X, steps.H}},
		{steps.Step{Kind: steps.QueryRow, At: 2, Layer: 1, Row: 3}, []int{steps.H, steps.Q}},
		{steps.Step{Kind: steps.KeyRow, At: 2, Layer: 1}, []int{steps.H, steps.K}},
		{steps.Step{Kind: steps.ValueRow, At: 2, Layer: 1, Row: 1}, []int{steps.H, steps.V}},
		{steps.Step{Kind: steps.Turn, At: 2, Layer: 1}, []int{steps.Q}},
		{steps.Step{Kind: steps.PutKey, At: 2, Layer: 1}, []int{steps.K, 12 + 14 + 4}},
		{steps.Step{Kind: steps.PutValue, At: 2, Layer: 1}, []int{steps.V, 12 + 14 + 5}},
		{steps.Step{Kind: steps.PutKey, At: 6, Layer: 2}, []int{steps.K, 12 + 28 + 12}},
		{steps.Step{Kind: steps.PutValue}, []int{steps.V, 13}},
		{steps.Step{Kind: steps.Near, At: 2, Layer: 1, Head: 1}, []int{steps.Q, 12 + 14, steps.S}},
		{steps.Step{Kind: steps.Near, At: 2, Layer: 1, Row: 2}, []int{steps.Q, 12 + 14 + 4, steps.S}},
		{steps.Step{Kind: steps.Share, At: 2, Layer: 1, Head: 1}, []int{steps.S}},
		{steps.Step{Kind: steps.Mix}, []int{steps.S, steps.A, 13}},
		{steps.Step{Kind: steps.Mix, At: 2, Layer: 1, Head: 1}, []int{steps.S, steps.A, 27, 29, 31}},
		{steps.Step{Kind: steps.Mix, At: 6, Layer: 2}, []int{steps.S, steps.A, 41, 43, 45, 47, 49, 51, 53}},
		{steps.Step{Kind: steps.OutputRow, At: 2, Layer: 1}, []int{steps.A, steps.O}},
		{steps.Step{Kind: steps.AddA, At: 2, Layer: 1}, []int{steps.X, steps.O}},
		{steps.Step{Kind: steps.NormB, At: 2, Layer: 1}, []int{steps.X, steps.H}},
		{steps.Step{Kind: steps.GateRow, At: 2, Layer: 1, Row: 4}, []int{steps.H, steps.G}},
		{steps.Step{Kind: steps.Open, At: 2, Layer: 1}, []int{steps.G}},
		{steps.Step{Kind: steps.UpRow, At: 2, Layer: 1, Row: 2}, []int{steps.H, steps.U}},
		{steps.Step{Kind: steps.Times, At: 2, Layer: 1}, []int{steps.G, steps.U}},
		{steps.Step{Kind: steps.DownRow, At: 2, Layer: 1, Row: 3}, []int{steps.G, steps.O}},
		{steps.Step{Kind: steps.AddB, At: 2, Layer: 1}, []int{steps.X, steps.O}},
		{steps.Step{Kind: steps.NormC, At: 2}, []int{steps.X, steps.H}},
		{steps.Step{Kind: steps.OutRow, At: 2, Row: 6}, []int{steps.H, steps.L}},
		{steps.Step{Kind: steps.Pick, At: 2}, []int{steps.L, steps.Tokens}},
	} {
		i, has := first[x.s]
		if !has {
			t.Fatalf("%v is no step", x.s)
		}
		if l, e := trace.Touched(p, i); !slices.Equal(l, x.want) || e != api.OK {
			t.Errorf("%v: %v %d, not %v", x.s, l, int(e), x.want)
		}
	}
}

func TestTouchedOfAny(t *testing.T) { // P15.2
	for _, p := range somePlans() {
		i := 0
		for s := range p.Steps() {
			if l, e := trace.Touched(p, i); !slices.Equal(l, plainTouched(p, s)) || e != api.OK {
				t.Fatalf("%v, %v: %v %d, not %v", p, s, l, int(e), plainTouched(p, s))
			}
			i++
		}
		for _, far := range append(farInts(), i, i+1) {
			if l, e := trace.Touched(p, far); len(l) != 0 || e != api.ErrRange {
				t.Errorf("%v: %d: %v %d", p, far, l, int(e))
			}
		}
	}
	for _, p := range noPlans() {
		for _, i := range append(farInts(), 0, 1, 31) {
			if l, e := trace.Touched(p.Plan, i); len(l) != 0 || e != api.ErrRange {
				t.Errorf("%v: %d: %v %d", p, i, l, int(e))
			}
		}
	}
}

func TestFirst(t *testing.T) { // P15.2
	for _, p := range somePlans() {
		prompt := everyThird(p.Prompt, p.Config.Vocab)
		cells, _ := p.Begin(prompt)
		if d, e := trace.First(p, prompt); d != plainState(cells) || e != api.OK {
			t.Errorf("%v: %v %d", p, d, int(e))
		}
	}
	for _, r := range slices.Concat(someRuns(), farRuns()) {
		x, _ := trace.Far(r.w, r.a)
		want, _ := x.State(0)
		if d, e := trace.First(x.Plan(), r.a.Prompt); d != want || e != api.OK {
			t.Errorf("%v: %v %d, not %v", x.Plan(), d, int(e), want)
		}
	}
	// Of one place, of one layer: the tokens, eleven cells of the sizes that are told, a key and a value.
	p := steps.Plan{Config: weights.Config{Vocab: 3, Dim: 2, Heads: 1, Layers: 1, Ctx: 2, Hidden: 4}, Prompt: 1, Limit: 1, K: 1}
	two, four := []int{0, 0}, make([]int, 4)
	want := plainState([][]int{{0, 2, -1}, two, two, two, two, two, two, {0}, four, four, two, {0, 0, 0}, two, two})
	if d, e := trace.First(p, []int{2}); d != want || e != api.OK {
		t.Error(d, int(e))
	}
	if d, e := trace.First(p, []int{1}); d == want || e != api.OK {
		t.Error("another prompt leads to the same state", int(e))
	}
}

// TestFirstWrong: the plan's error comes first, then how many tokens there are, then which.
func TestFirstWrong(t *testing.T) { // P15.2, R1
	for _, p := range noPlans() {
		for _, prompt := range [][]int{nil, {0}, {0, 0, 0}, {-1, 0, 0}, make([]int, 70)} {
			if d, e := trace.First(p.Plan, prompt); d != (api.Digest{}) || e != p.e {
				t.Errorf("%v: %v: %d, not %d", p, prompt, int(e), int(p.e))
			}
		}
	}
	p := steps.Plan{Config: middle, Prompt: 3, Limit: 5, K: 3}
	for _, x := range []struct {
		prompt []int
		e      api.Errno
	}{
		{nil, api.ErrSize}, {[]int{0, 1}, api.ErrSize}, {[]int{0, 1, 2, 3}, api.ErrSize}, {[]int{-1, 1}, api.ErrSize}, {[]int{7, 7, 7, 7}, api.ErrSize},
		{[]int{-1, 1, 2}, api.ErrRange}, {[]int{0, 1, 7}, api.ErrRange}, {[]int{0, math.MinInt, 0}, api.ErrRange}, {[]int{0, math.MaxInt, 0}, api.ErrRange},
	} {
		if d, e := trace.First(p, x.prompt); d != (api.Digest{}) || e != x.e {
			t.Errorf("%v: %d, not %d", x.prompt, int(e), int(x.e))
		}
	}
}

// TestState has cells of any number and any sizes.
func TestState(t *testing.T) { // P15.2, R1
	var cells [][]int
	states := map[api.Digest]int{}
	for i := range 70 {
		if d := trace.State(cells); d != plainState(cells) {
			t.Errorf("of %d cells: %v", i, d)
		}
		states[trace.State(cells)]++
		l := []int{i, -i, math.MinInt, math.MaxInt, 1 << 40, 0}
		cells = append(cells, l[:i%7])
	}
	if len(states) != 70 || trace.State(nil) != trace.State([][]int{}) {
		t.Error(len(states))
	}
	// One cell of nothing is not no cell; nor are two numbers in one cell those in two.
	if trace.State([][]int{{}}) == trace.State(nil) || trace.State([][]int{nil}) != trace.State([][]int{{}}) || trace.State([][]int{{1, 2}}) == trace.State([][]int{{1}, {2}}) {
		t.Error("the same state of other cells")
	}
	if trace.State([][]int{{258}}) != plainLeaf([]byte{0, 0, 0, 0, 0, 0, 1, 2}) {
		t.Error(trace.State([][]int{{258}}))
	}
}
