package steps_test

import (
	"math"
	"slices"
	"testing"

	"cupel/api"
	"cupel/model"
	"cupel/steps"
	"cupel/weights"
)

// TestNumbers has each kind of steps and each cell have the number that the chapter's order tells.
func TestNumbers(t *testing.T) { // P12.1
	for i, kind := range []int{
		steps.Load, steps.NormA, steps.QueryRow, steps.KeyRow, steps.ValueRow, steps.Turn, steps.PutKey, steps.PutValue, steps.Near, steps.Share, steps.Mix, steps.OutputRow,
		steps.AddA, steps.NormB, steps.GateRow, steps.Open, steps.UpRow, steps.Times, steps.DownRow, steps.AddB, steps.NormC, steps.OutRow, steps.Pick,
	} {
		if kind != i+1 {
			t.Errorf("kind %d is %d", i+1, kind)
		}
	}
	for i, cell := range []int{steps.Tokens, steps.X, steps.H, steps.Q, steps.K, steps.V, steps.A, steps.S, steps.G, steps.U, steps.O, steps.L, steps.Rest} {
		if cell != i {
			t.Errorf("cell %d is %d", i, cell)
		}
	}
}

// TestExample has the chapter's 32 steps.
func TestExample(t *testing.T) { // P12.1
	p := example()
	want := []steps.Step{
		{Kind: steps.Load}, {Kind: steps.NormA}, {Kind: steps.QueryRow}, {Kind: steps.QueryRow, Row: 1}, {Kind: steps.KeyRow}, {Kind: steps.KeyRow, Row: 1}, {Kind: steps.ValueRow}, {Kind: steps.ValueRow, Row: 1},
		{Kind: steps.Turn}, {Kind: steps.PutKey}, {Kind: steps.PutValue}, {Kind: steps.Near}, {Kind: steps.Share}, {Kind: steps.Mix}, {Kind: steps.OutputRow}, {Kind: steps.OutputRow, Row: 1}, {Kind: steps.AddA},
		{Kind: steps.NormB}, {Kind: steps.GateRow}, {Kind: steps.GateRow, Row: 1}, {Kind: steps.Open}, {Kind: steps.UpRow}, {Kind: steps.UpRow, Row: 1}, {Kind: steps.Times}, {Kind: steps.DownRow}, {Kind: steps.DownRow, Row: 1}, {Kind: steps.AddB},
		{Kind: steps.NormC}, {Kind: steps.OutRow}, {Kind: steps.OutRow, Row: 1}, {Kind: steps.OutRow, Row: 2}, {Kind: steps.Pick},
	}
	if l := slices.Collect(p.Steps()); !slices.Equal(l, want) || len(l) != 32 {
		t.Errorf("%v, not %v", l, want)
	}
	if p.Many() != 32 || p.Places() != 1 || p.Cells() != 14 || p.Check() != api.OK {
		t.Error(p.Many(), p.Places(), p.Cells(), int(p.Check()))
	}
}

// TestManyTold has numbers that were worked out by hand: a place has 2 and Vocab, one more if a token comes, and in each layer 9, 5 Dim, 2 Hidden, and, of each head, 3 and the place.
func TestManyTold(t *testing.T) { // P12.1
	for _, x := range []struct {
		p                   steps.Plan
		places, cells, many int
	}{
		{steps.Plan{Config: least, Prompt: 1, Limit: 1, K: 1}, 1, 14, 28},
		{steps.Plan{Config: small, Prompt: 1, Limit: 1, K: 1}, 1, 14, 36},
		{steps.Plan{Config: small, Prompt: 2, Limit: 2, K: 1}, 3, 18, 110},
		{steps.Plan{Config: small, Prompt: 3, Limit: 1, K: 5}, 3, 18, 109},
		{right(), 7, 54, 1139},
		{steps.Plan{Config: most, Prompt: 1, Limit: 1, K: 512}, 1, 20, 2439},
		{steps.Plan{Config: most, Prompt: 1, Limit: 63, K: 1}, 63, 516, 216153},
		{steps.Plan{Config: most, Prompt: 63, Limit: 1, K: 1}, 63, 516, 216091},
	} {
		if x.p.Places() != x.places || x.p.Cells() != x.cells || x.p.Many() != x.many || x.p.Check() != api.OK {
			t.Errorf("%v: %d places, %d cells, %d steps, not %d, %d, %d", x.p, x.p.Places(), x.p.Cells(), x.p.Many(), x.places, x.cells, x.many)
		}
		if s, e := x.p.Step(x.many - 1); s != (steps.Step{Kind: steps.Pick, At: x.places - 1}) || e != api.OK {
			t.Errorf("%v: the last step is %v %d", x.p, s, int(e))
		}
		if s, e := x.p.Step(x.many); s != (steps.Step{}) || e != api.ErrRange {
			t.Errorf("%v: behind the last step is %v %d", x.p, s, int(e))
		}
	}
}

// TestStepsOfAny has all steps, in order, told by all calls that tell them.
func TestStepsOfAny(t *testing.T) { // P12.1
	for _, p := range somePlans() {
		b := boardOf(p)
		if l := slices.Collect(p.Steps()); !slices.Equal(l, b.l) {
			t.Errorf("%v: other steps", p)
		}
		if p.Many() != len(b.l) || p.Places() != len(b.keys[0]) || p.Cells() != len(b.sizes) || p.Check() != api.OK {
			t.Errorf("%v: %d %d %d %d", p, p.Many(), p.Places(), p.Cells(), int(p.Check()))
		}
		for i, want := range b.l {
			if s, e := p.Step(i); s != want || e != api.OK {
				t.Fatalf("%v: step %d is %v %d, not %v", p, i, s, int(e), want)
			}
		}
		for _, i := range []int{-1, -2, -len(b.l), len(b.l), len(b.l) + 1, 2 * len(b.l), 1 << 31, 1 << 32, math.MaxInt - 1, math.MaxInt, math.MinInt, math.MinInt + 1, -1 << 32} {
			if s, e := p.Step(i); s != (steps.Step{}) || e != api.ErrRange {
				t.Errorf("%v: step %d is %v %d", p, i, s, int(e))
			}
		}
	}
}

// TestPicksOfAny has a token come at each place from the prompt's last one on, and nowhere else.
func TestPicksOfAny(t *testing.T) { // P12.1
	for _, p := range somePlans() {
		var at []int
		for s := range p.Steps() {
			if s.Kind == steps.Pick {
				at = append(at, s.At)
			}
		}
		if len(at) != p.Limit || at[0] != p.Prompt-1 || at[len(at)-1] != p.Places()-1 {
			t.Errorf("%v: %v", p, at)
		}
	}
}

// TestStepsLeft leaves the steps behind each one, and goes through them again.
func TestStepsLeft(t *testing.T) { // P12.1
	for _, p := range somePlans()[:7] {
		want := boardOf(p).l
		all := p.Steps()
		for n := range want {
			var l []steps.Step
			for s := range all {
				l = append(l, s)
				if len(l) == n+1 {
					break
				}
			}
			if !slices.Equal(l, want[:n+1]) {
				t.Fatalf("%v: left behind %d: %v", p, n, l)
			}
		}
		if !slices.Equal(slices.Collect(all), want) || !slices.Equal(slices.Collect(all), want) {
			t.Errorf("%v: other steps the second time", p)
		}
	}
}

// TestStepsTwiceAtOnce goes through the steps in the middle of going through them.
func TestStepsTwiceAtOnce(t *testing.T) { // P12.1, R3
	p := right()
	want := boardOf(p).l
	all := p.Steps()
	i := 0
	for s := range all {
		if s != want[i] {
			t.Fatalf("step %d is %v, not %v", i, s, want[i])
		}
		if i%100 == 50 && !slices.Equal(slices.Collect(all), want) {
			t.Errorf("other steps in the middle of step %d", i)
		}
		i++
	}
	// It is the plan as it was that tells them.
	p.Limit = 1
	if !slices.Equal(slices.Collect(all), want) {
		t.Error("the steps turn with the plan")
	}
}

// TestStepsByHand asks no more behind the one that was the last to be asked for.
func TestStepsByHand(t *testing.T) { // P12.1, R1
	for _, p := range somePlans() {
		for _, n := range []int{1, 2, 3, p.Many() / 2, p.Many() - 1, p.Many(), p.Many() + 1} {
			asked := 0
			p.Steps()(func(steps.Step) bool {
				asked++
				return asked < n
			})
			if asked != min(n, p.Many()) {
				t.Errorf("%v: asked %d times, not %d", p, asked, n)
			}
		}
	}
}

// TestSizesTold has sizes that were worked out by hand.
func TestSizesTold(t *testing.T) { // P12.1
	for _, x := range []struct {
		p     steps.Plan
		sizes []int
	}{
		{example(), []int{3, 2, 2, 2, 2, 2, 2, 1, 2, 2, 2, 3, 2, 2}},
		{steps.Plan{Config: small, Prompt: 2, Limit: 1, K: 1}, []int{4, 2, 2, 2, 2, 2, 2, 2, 3, 3, 2, 5, 2, 2, 2, 2}},
		{steps.Plan{Config: middle, Prompt: 1, Limit: 2, K: 1}, []int{4, 4, 4, 4, 4, 4, 4, 2, 5, 5, 4, 7, 4, 4, 4, 4, 4, 4, 4, 4, 4, 4, 4, 4}},
	} {
		for cell, size := range x.sizes {
			if n := x.p.Size(cell); n != size {
				t.Errorf("%v: cell %d has %d numbers, not %d", x.p, cell, n, size)
			}
		}
		if x.p.Cells() != len(x.sizes) {
			t.Errorf("%v: %d cells, not %d", x.p, x.p.Cells(), len(x.sizes))
		}
	}
}

// TestSizesOfAny has also cells ahead of the first one and behind the last one.
func TestSizesOfAny(t *testing.T) { // P12.1, R1
	for _, p := range append(somePlans(), steps.Plan{Config: most, Prompt: 30, Limit: 34, K: 9}) {
		b := boardOf(p)
		for cell, size := range b.sizes {
			if n := p.Size(cell); n != size {
				t.Errorf("%v: cell %d has %d numbers, not %d", p, cell, n, size)
			}
		}
		for _, cell := range append(farInts(), len(b.sizes), len(b.sizes)+1, 2*len(b.sizes)) {
			if n := p.Size(cell); n != 0 && (cell < 0 || cell >= len(b.sizes)) {
				t.Errorf("%v: cell %d has %d numbers", p, cell, n)
			}
		}
	}
}

// TestCheckOfNone has the error that is to be told first of each plan that may not be.
func TestCheckOfNone(t *testing.T) { // P12.1, R1
	for _, x := range noPlans() {
		if e := x.Check(); e != x.e {
			t.Errorf("%v: %d, not %d", x.Plan, int(e), int(x.e))
		}
		if _, e := told(func() int { return tellCheck(x.Plan) }); e != x.e {
			t.Errorf("%v: %d is wanted, not %d", x.Plan, int(e), int(x.e))
		}
	}
}

// TestCheckOfEdges has plans that only just may be.
func TestCheckOfEdges(t *testing.T) { // P12.1
	for _, x := range []struct {
		prompt, limit, k int
	}{{1, 1, 1}, {1, 8, 1}, {8, 1, 1}, {1, 1, 7}, {4, 5, 7}, {5, 4, 1}} {
		if e := (steps.Plan{Config: middle, Prompt: x.prompt, Limit: x.limit, K: x.k}).Check(); e != api.OK {
			t.Errorf("%v: %d", x, int(e))
		}
	}
	for _, p := range []steps.Plan{{Config: most, Prompt: 63, Limit: 1, K: 512}, {Config: most, Prompt: 1, Limit: 63, K: 1}, {Config: most, Prompt: 32, Limit: 32, K: 100}} {
		if e := p.Check(); e != api.OK {
			t.Errorf("%v: %d", p, int(e))
		}
	}
}

// TestCheckIsModels has it be what model.Check tells of a prompt of so many tokens.
func TestCheckIsModels(t *testing.T) { // P12.1
	chance := newChance(1)
	errors := map[api.Errno]int{}
	for range 20000 {
		p := somePlans()[chance.IntN(len(somePlans()))]
		for _, n := range []*int{&p.Prompt, &p.Limit, &p.K, &p.Config.Ctx, &p.Config.Vocab, &p.Config.Heads} {
			switch chance.IntN(12) {
			case 0:
				*n = chance.IntN(70)
			case 1:
				*n += 1 - 2*chance.IntN(2)
			}
		}
		e := p.Check()
		if want := model.Check(p.Config, model.Ask{Prompt: make([]int, max(p.Prompt, 0)), Limit: p.Limit, K: p.K}); e != want {
			t.Fatalf("%v: %d, not %d", p, int(e), int(want))
		}
		if _, want := told(func() int { return tellCheck(p) }); e != want {
			t.Fatalf("%v: %d, not %d", p, int(e), int(want))
		}
		errors[e]++
	}
	if len(errors) != 4 {
		t.Error(errors)
	}
}

// TestNoPlan has of a plan that may not be what the chapter tells of it, by every call.
func TestNoPlan(t *testing.T) { // P12.1, P12.2, P12.3, P12.4, R1
	b := boardOf(right())
	w := made(middle, 3, one)
	for _, x := range noPlans() {
		p := x.Plan
		if p.Places() != 0 || p.Cells() != 0 || p.Many() != 0 || len(slices.Collect(p.Steps())) != 0 {
			t.Errorf("%v: %d places, %d cells, %d steps", p, p.Places(), p.Cells(), p.Many())
		}
		for _, n := range append(farInts(), 0, 1, 7, 12, 13) {
			if s, e := p.Step(n); s != (steps.Step{}) || e != api.ErrRange || p.Size(n) != 0 {
				t.Errorf("%v: step %d is %v %d, cell %d has %d numbers", p, n, s, int(e), n, p.Size(n))
			}
		}
		for _, s := range b.l[:60] {
			holdNone(t, p, s, emptyCells(b, s), make([]int, b.weightSize(s)))
		}
		if cells, e := p.Begin([]int{0, 1, 2}); len(cells) != 0 || e != x.e {
			t.Errorf("%v: Begin: %v %d, not %d", p, cells, int(e), int(x.e))
		}
		want := x.e
		if p.Config != middle {
			want = api.ErrForm
		}
		a := model.Ask{Prompt: []int{0, 1, 2}, Limit: p.Limit, K: p.K}
		if cells, n, e := steps.Run(w, p, a); len(cells) != 0 || n != 0 || e != want {
			t.Errorf("%v: Run: %v %d %d, not %d", p, cells, n, int(e), int(want))
		}
	}
}

// emptyCells is what a step of the plan reads, all of it 0.
func emptyCells(b *board, s steps.Step) [][]int {
	var reads [][]int
	for _, cell := range b.lineOf(s).reads {
		reads = append(reads, make([]int, b.sizes[cell]))
	}
	return reads
}

// holdNone holds all calls that are asked of a step to what they tell of one that is none.
func holdNone(t *testing.T, p steps.Plan, s steps.Step, reads [][]int, weight []int) {
	t.Helper()
	if l := p.Reads(s); len(l) != 0 || p.Writes(s) != 0 {
		t.Errorf("%v, %v: reads %v, writes %d", p, s, l, p.Writes(s))
	}
	if x, has := p.Part(s, reads); has || x != (weights.Part{}) {
		t.Errorf("%v, %v: Part: %v %v", p, s, x, has)
	}
	if l, e := p.Do(s, reads, weight, api.Digest{}); len(l) != 0 || e != api.ErrRange {
		t.Errorf("%v, %v: Do: %v %d", p, s, l, int(e))
	}
}
