package trace_test

import (
	"math"
	"math/rand/v2"
	"slices"
	"testing"

	"cupel/api"
	"cupel/model"
	"cupel/steps"
	"cupel/trace"
	"cupel/weights"
)

// TestAfterEach goes through whole runs by their witnesses, over the weights' root, the seed and the state ahead alone.
func TestAfterEach(t *testing.T) { // P15.3, P15.4
	for _, r := range slices.Concat(someRuns(), farRuns()) {
		want := plainOf(r)
		x, _ := trace.Far(r.w, r.a)
		root, e := weights.Root(r.w)
		if e != api.OK || root != want.root {
			t.Fatal(int(e))
		}
		p, e := trace.PlanOf(r.w.Config, r.a)
		state, wrong := trace.First(p, r.a.Prompt)
		if e != api.OK || wrong != api.OK {
			t.Fatal(int(e), int(wrong))
		}
		for i := range x.Many() {
			y, e := x.Witness(i)
			if e != api.OK {
				t.Fatal(i, int(e))
			}
			if state, e = trace.After(p, root, r.a.Seed, i, state, y); state != want.states[i+1] || e != api.OK {
				t.Fatalf("%v: %d, %v: %d", p, i, want.l[i], int(e))
			}
		}
		if last, _ := x.State(x.Many()); state != last {
			t.Errorf("%v: another last state", p)
		}
	}
}

// TestAfterOfTheErrorStep has the step at which a run ended be done by a witness of the cells ahead of it: it has the run's error.
func TestAfterOfTheErrorStep(t *testing.T) { // P15.3
	for _, r := range farRuns() {
		x := plainOf(r)
		i := len(x.l)
		s, _ := x.p.Step(i)
		c := claim{x.p, x.root, r.a.Seed, i, x.states[i], x.witnessOf(s, x.cells[i])}
		if d, e := c.after(); d != (api.Digest{}) || e != x.e {
			t.Errorf("%v: %v: %d, not %d", x.p, s, int(e), int(x.e))
		}
		// An error of the proof is told ahead of it.
		c.before[31] ^= 1
		if d, e := c.after(); d != (api.Digest{}) || e != api.ErrProof {
			t.Errorf("%v: %v: %d", x.p, s, int(e))
		}
	}
}

// refuse holds After of a claim against the error that is wanted, and against what is told of it.
func refuse(t *testing.T, what string, s steps.Step, c claim, want api.Errno) {
	t.Helper()
	if d, e := c.after(); d != (api.Digest{}) || e != want {
		t.Errorf("%v: %s: %v %d, not %d", s, what, d, int(e), int(want))
	}
	if _, e := c.plainAfter(); e != want {
		t.Errorf("%v: %s: %d is wanted of it, not %d", s, what, int(e), int(want))
	}
}

// copied is a claim in memory of its own.
func (c claim) copied() claim {
	c.Cells = slices.Clone(c.Cells)
	for i, x := range c.Cells {
		c.Cells[i] = trace.Cell{Place: x.Place, L: slices.Clone(x.L), Proof: slices.Clone(x.Proof)}
	}
	c.Weight, c.Proof = slices.Clone(c.Weight), slices.Clone(c.Proof)
	return c
}

// oneOfEach is a step of each kind: the last one, at which there is the most to be read.
func oneOfEach(x *plain) []int {
	last := map[int]int{}
	for i, s := range x.l {
		last[s.Kind] = i
	}
	var l []int
	for kind := steps.Load; kind <= steps.Pick; kind++ {
		l = append(l, last[kind])
	}
	return l
}

// judged is the runs of which claims are turned.
func judged() []*plain {
	return []*plain{plainOf(runOf(small, 1, 2*one, 2, 1, 5, 2)), plainOf(runOf(middle, 2, 2*one, 2, 1, 7, 2)), plainOf(runOf(wide, 3, one, 3, 1, 12, 1))}
}

// each calls for each claim of a step of each kind, as it is.
func each(t *testing.T, f func(x *plain, s steps.Step, c func() claim)) {
	t.Helper()
	for _, x := range judged() {
		for _, i := range oneOfEach(x) {
			right := x.claimOf(i)
			if d, e := right.after(); d != x.states[i+1] || e != api.OK {
				t.Fatalf("%v, %v: %d", x.p, x.l[i], int(e))
			}
			f(x, x.l[i], right.copied)
		}
	}
}

// TestAfterForm has cells that are not at the places that the step touches.
func TestAfterForm(t *testing.T) { // P15.3, R1
	each(t, func(x *plain, s steps.Step, right func() claim) {
		forms := func(what string, turn func(c *claim)) {
			t.Helper()
			c := right()
			turn(&c)
			refuse(t, what, s, c, api.ErrForm)
			// It is told ahead of what is wrong with proofs.
			c.before[0] ^= 1
			c.root[0] ^= 1
			refuse(t, what+", and no proof", s, c, api.ErrForm)
		}
		forms("no cells", func(c *claim) { c.Cells = nil })
		forms("nothing", func(c *claim) { c.Witness = trace.Witness{} })
		forms("one too few", func(c *claim) { c.Cells = c.Cells[:len(c.Cells)-1] })
		forms("the first one too few", func(c *claim) { c.Cells = c.Cells[1:] })
		forms("one twice", func(c *claim) { c.Cells = append(c.Cells, c.Cells[0]) })
		forms("one more", func(c *claim) {
			all := x.cells[c.i]
			c.Cells = append(c.Cells, trace.Cell{Place: 9, L: all[9], Proof: plainProof(9, plainLeaves(all))})
		})
		if n := len(right().Cells); n > 1 {
			forms("two exchanged", func(c *claim) { c.Cells[0], c.Cells[n-1] = c.Cells[n-1], c.Cells[0] })
			forms("one in place of another", func(c *claim) { c.Cells[n-1] = c.Cells[0] })
			forms("places exchanged", func(c *claim) { c.Cells[0].Place, c.Cells[1].Place = c.Cells[1].Place, c.Cells[0].Place })
		}
		for k := range right().Cells {
			for _, far := range append(farInts(), x.p.Cells(), x.p.Cells()+1) {
				forms("a place far off", func(c *claim) { c.Cells[k].Place = far })
			}
			forms("the next place", func(c *claim) { c.Cells[k].Place++ })
			forms("another cell", func(c *claim) {
				all, other := x.cells[c.i], (c.Cells[k].Place+1)%x.p.Cells()
				c.Cells[k] = trace.Cell{Place: other, L: all[other], Proof: plainProof(other, plainLeaves(all))}
			})
		}
	})
}

// TestAfterProof turns each piece of a witness alone.
func TestAfterProof(t *testing.T) { // P15.3, R1
	each(t, func(x *plain, s steps.Step, right func() claim) {
		breaks := func(what string, turn func(c *claim)) {
			t.Helper()
			c := right()
			turn(&c)
			refuse(t, what, s, c, api.ErrProof)
		}
		for k, cell := range right().Cells {
			for i := range cell.L {
				breaks("a number", func(c *claim) { c.Cells[k].L[i]++ })
				breaks("a number's highest bit", func(c *claim) { c.Cells[k].L[i] ^= math.MinInt })
			}
			breaks("a number too many", func(c *claim) { c.Cells[k].L = append(c.Cells[k].L, 0) })
			breaks("a number too few", func(c *claim) { c.Cells[k].L = c.Cells[k].L[1:] })
			breaks("no numbers", func(c *claim) { c.Cells[k].L = nil })
			for i := range cell.Proof {
				breaks("a digest", func(c *claim) { c.Cells[k].Proof[i][31] ^= 1 })
			}
			breaks("a digest too many", func(c *claim) { c.Cells[k].Proof = append(c.Cells[k].Proof, c.before) })
			breaks("a digest too few", func(c *claim) { c.Cells[k].Proof = c.Cells[k].Proof[:len(cell.Proof)-1] })
			breaks("the first digest too few", func(c *claim) { c.Cells[k].Proof = c.Cells[k].Proof[1:] })
			breaks("no proof", func(c *claim) { c.Cells[k].Proof = nil })
			breaks("many digests", func(c *claim) { c.Cells[k].Proof = slices.Repeat(c.Cells[k].Proof, 30) })
		}
		breaks("another state ahead", func(c *claim) { c.before[7] ^= 4 })
		breaks("the state behind", func(c *claim) { c.before = x.states[c.i+1] })
		breaks("no state ahead", func(c *claim) { c.before = api.Digest{} })
		breaks("no state ahead, and no proofs", func(c *claim) {
			c.before = api.Digest{}
			for k := range c.Cells {
				c.Cells[k].Proof = nil
			}
		})
		breaks("numbers of another state", func(c *claim) { c.Witness = x.witnessOf(s, x.cells[len(x.l)]) })
	})
}

// TestAfterWeight turns the row of weights, and its proof, alone.
func TestAfterWeight(t *testing.T) { // P15.3, R1
	rows := map[bool]int{}
	each(t, func(x *plain, s steps.Step, right func() claim) {
		breaks := func(what string, turn func(c *claim)) {
			t.Helper()
			c := right()
			turn(&c)
			refuse(t, what, s, c, api.ErrProof)
		}
		has := len(right().Weight) > 0
		rows[has]++
		breaks("a number more", func(c *claim) { c.Weight = append(c.Weight, 0) })
		breaks("a digest more", func(c *claim) { c.Proof = append(c.Proof, c.root) })
		breaks("another row", func(c *claim) { c.Weight, c.Proof = plainInts(x.leaves[1]), plainProof(len(x.leaves)-1, x.leaves) })
		if !has {
			breaks("a row where there is none", func(c *claim) { c.Weight, c.Proof = plainInts(x.leaves[1]), plainProof(1, x.leaves) })
			breaks("a row of nothing but 0", func(c *claim) { c.Weight = []int{0} })
			c := right()
			c.root[0] ^= 1
			if d, e := c.after(); d != x.states[c.i+1] || e != api.OK {
				t.Errorf("%v: another root: %d", s, int(e))
			}
			return
		}
		for i := range right().Weight {
			breaks("a number", func(c *claim) { c.Weight[i]-- })
		}
		for i := range right().Proof {
			breaks("a digest", func(c *claim) { c.Proof[i][0] ^= 128 })
		}
		breaks("no row", func(c *claim) { c.Weight, c.Proof = nil, nil })
		breaks("no numbers", func(c *claim) { c.Weight = nil })
		breaks("no proof", func(c *claim) { c.Proof = nil })
		breaks("a number fewer", func(c *claim) { c.Weight = c.Weight[1:] })
		breaks("a digest fewer", func(c *claim) { c.Proof = c.Proof[:len(c.Proof)-1] })
		breaks("another root", func(c *claim) { c.root[31] ^= 1 })
		breaks("no root", func(c *claim) { c.root = api.Digest{} })
		breaks("no root, and no proof", func(c *claim) { c.root, c.Proof = api.Digest{}, nil })
		place, _ := plainPlace(x.p.Config, s, x.cells[right().i][0][1+s.At])
		for other := range x.leaves {
			// The first leaf is no row.
			if other != place && other > 0 {
				breaks("another row, and its proof", func(c *claim) { c.Weight, c.Proof = plainInts(x.leaves[other]), plainProof(other, x.leaves) })
			}
		}
	})
	if rows[true] == 0 || rows[false] == 0 {
		t.Error(rows)
	}
}

// TestAfterRange has steps that the plan has not, and plans that may not be, with whatever else is wrong.
func TestAfterRange(t *testing.T) { // P15.3, R1
	each(t, func(x *plain, s steps.Step, right func() claim) {
		for _, far := range append(farInts(), len(x.l), len(x.l)+1) {
			c := right()
			c.i = far
			refuse(t, "another step", s, c, api.ErrRange)
			c.Witness, c.before = trace.Witness{}, api.Digest{}
			refuse(t, "another step, and nothing", s, c, api.ErrRange)
		}
		for _, p := range noPlans() {
			c := right()
			c.p = p.Plan
			refuse(t, "no plan", s, c, api.ErrRange)
			c.Witness = trace.Witness{}
			refuse(t, "no plan, and nothing", s, c, api.ErrRange)
		}
	})
}

// TestAfterOfOtherSteps has the witness of one step be told of another one.
func TestAfterOfOtherSteps(t *testing.T) { // P15.3
	x := plainOf(runOf(middle, 2, 2*one, 2, 1, 7, 2))
	wrong := map[api.Errno]int{}
	for i := range x.l {
		for _, other := range []int{i - 1, i + 1, i + 2, i + 40, len(x.l) - 1 - i} {
			if other < 0 || other >= len(x.l) || other == i {
				continue
			}
			c := x.claimOf(i)
			c.i = other
			want, e := c.plainAfter()
			if d, got := c.after(); d != want || got != e {
				t.Fatalf("%v, told of %v: %d, not %d", x.l[i], x.l[other], int(got), int(e))
			}
			wrong[e]++
		}
	}
	// A row may be told of the step of another head, or place, that does the same.
	if wrong[api.ErrForm] == 0 || wrong[api.ErrProof] == 0 {
		t.Error(wrong)
	}
}

// TestAfterOfOtherPlans has other plans, of which a step touches the same cells, and other K and Limit.
func TestAfterOfOtherPlans(t *testing.T) { // P15.3
	x := plainOf(runOf(middle, 2, 2*one, 2, 1, 7, 2))
	for _, turn := range []func(p *steps.Plan){
		func(p *steps.Plan) { p.K = 1 }, func(p *steps.Plan) { p.Limit++ }, func(p *steps.Plan) { p.Prompt++ }, func(p *steps.Plan) { p.Prompt-- },
		func(p *steps.Plan) { p.Config.Heads = 1 }, func(p *steps.Plan) { p.Config.Layers = 2 }, func(p *steps.Plan) { p.Config.Vocab = 6 }, func(p *steps.Plan) { p.Config.Ctx = 64 }, func(p *steps.Plan) { p.Config.Hidden = 4 },
	} {
		for i := range x.l {
			c := x.claimOf(i)
			turn(&c.p)
			if c.p.Check() != api.OK {
				c.p.K = 6
			}
			want, e := c.plainAfter()
			if d, got := c.after(); d != want || got != e {
				t.Fatalf("%v: %v: %d, not %d", c.p, x.l[i], int(got), int(e))
			}
		}
	}
}

// TestAfterSeed: the seed counts where a token is drawn, and nowhere else.
func TestAfterSeed(t *testing.T) { // P15.3, P15.4
	for _, x := range judged() {
		others := map[api.Digest]bool{}
		for i, s := range x.l {
			for b := range byte(12) {
				c := x.claimOf(i)
				c.seed = seedOf(b + 100)
				d, e := c.after()
				if e != api.OK || s.Kind != steps.Pick && d != x.states[i+1] {
					t.Fatalf("%v, %v: %d", x.p, s, int(e))
				}
				if s.Kind == steps.Pick {
					others[d] = true
				} else if i%9 > 0 {
					break
				}
			}
		}
		if len(others) < 2*x.p.Limit {
			t.Errorf("%v: %d states behind all seeds", x.p, len(others))
		}
	}
	greedy := plainOf(runOf(small, 1, 2*one, 2, 1, 1, 3))
	for i, s := range greedy.l {
		c := greedy.claimOf(i)
		c.seed = seedOf(9)
		if d, e := c.after(); d != greedy.states[i+1] || e != api.OK {
			t.Errorf("%v: %d", s, int(e))
		}
	}
}

// forged is a claim of a state that no run comes to: of the cells ahead of the i-th step, turned.
func (x *plain) forged(i int, turn func(cells [][]int)) (claim, [][]int) {
	var cells [][]int
	for _, l := range x.cells[i] {
		cells = append(cells, slices.Clone(l))
	}
	turn(cells)
	return claim{x.p, x.root, x.a.Seed, i, plainState(cells), x.witnessOf(x.l[i], cells)}, cells
}

// stepOf is the first step of a kind at a place.
func (x *plain) stepOf(kind, at int) int {
	return slices.IndexFunc(x.l, func(s steps.Step) bool { return s.Kind == kind && s.At == at })
}

// TestAfterOfForgedStates has cells that lead to the state ahead, but that no step can be done with.
func TestAfterOfForgedStates(t *testing.T) { // P15.3, R1
	x := plainOf(runOf(middle, 2, 2*one, 2, 1, 7, 2))
	load, pick := x.stepOf(steps.Load, 1), x.stepOf(steps.Pick, 2)
	for _, token := range []int{-1, 7, math.MinInt, math.MaxInt} {
		c, _ := x.forged(load, func(cells [][]int) { cells[0][2] = token })
		refuse(t, "Load of no token", x.l[load], c, api.ErrForm)
		refuse(t, "Load of no token, with a row", x.l[load], claim{c.p, c.root, c.seed, c.i, c.before, trace.Witness{Cells: c.Cells, Weight: []int{1, 2, 3, 4}}}, api.ErrProof)
		refuse(t, "Load of no token, with a proof", x.l[load], claim{c.p, c.root, c.seed, c.i, c.before, trace.Witness{Cells: c.Cells, Proof: plainProof(1, x.leaves)}}, api.ErrProof)
	}
	for _, size := range []int{0, 1, 4, 6, 40} {
		turn := func(cells [][]int) { cells[0] = make([]int, size) }
		c, _ := x.forged(load, turn)
		c.Weight, c.Proof = nil, nil
		refuse(t, "Load of tokens of another size", x.l[load], c, api.ErrForm)
		c.Weight, c.Proof = plainInts(x.leaves[1]), plainProof(1, x.leaves)
		refuse(t, "Load of tokens of another size, with a row", x.l[load], c, api.ErrProof)
		c, _ = x.forged(pick, turn)
		refuse(t, "Pick of tokens of another size", x.l[pick], c, api.ErrForm)
	}
	for _, n := range []int{-1, math.MinInt} {
		c, _ := x.forged(pick, func(cells [][]int) { cells[0][0] = n })
		refuse(t, "Pick of no stream", x.l[pick], c, api.ErrForm)
	}
	c, _ := x.forged(pick, func(cells [][]int) { cells[0][0] = math.MaxInt })
	refuse(t, "Pick at the end of the stream", x.l[pick], c, api.ErrOver)
	c, _ = x.forged(pick, func(cells [][]int) { cells[steps.L][0] = high + 1 })
	refuse(t, "Pick of what is no number", x.l[pick], c, api.ErrRange)
	for _, kind := range []int{steps.NormA, steps.QueryRow, steps.Turn, steps.PutKey, steps.Near, steps.Share, steps.Mix, steps.AddA, steps.Open, steps.Times, steps.OutRow} {
		i := x.stepOf(kind, 1)
		for k := range plainTouched(x.p, x.l[i]) {
			cell := plainTouched(x.p, x.l[i])[k]
			if reads, _ := plainReads(x.p, x.l[i]); k >= len(reads) {
				continue
			}
			c, _ := x.forged(i, func(cells [][]int) { cells[cell] = append(cells[cell], 0) })
			refuse(t, "a number too many", x.l[i], c, api.ErrForm)
			c, _ = x.forged(i, func(cells [][]int) { cells[cell] = nil })
			refuse(t, "nothing", x.l[i], c, api.ErrForm)
		}
		c, _ := x.forged(i, func(cells [][]int) { cells[plainTouched(x.p, x.l[i])[0]][0] = math.MinInt })
		if d, e := c.after(); d != (api.Digest{}) || e == api.OK || e == api.ErrForm || e == api.ErrProof {
			t.Errorf("%v: of what is no number: %d", x.l[i], int(e))
		}
	}
}

// TestAfterLeavesOthers: other cells, whatever is in them, stay as they are; of one that is written, and not read, the size does not count.
func TestAfterLeavesOthers(t *testing.T) { // P15.3, P15.4
	x := plainOf(runOf(middle, 2, 2*one, 2, 1, 7, 2))
	for i, s := range x.l {
		reads, writes := plainReads(x.p, s)
		for _, size := range []int{0, 3, 9} {
			c, cells := x.forged(i, func(cells [][]int) {
				for cell := range cells {
					if !slices.Contains(reads, cell) {
						cells[cell] = slices.Repeat([]int{math.MinInt + cell}, size)
					}
				}
			})
			c.Witness = x.witnessOf(s, cells)
			// The token tells Load's row, and no other step's.
			if s.Kind != steps.Load {
				c.Weight, c.Proof = x.witness(i).Weight, x.witness(i).Proof
			}
			cells[writes] = x.cells[i+1][writes]
			if d, e := c.after(); d != plainState(cells) || e != api.OK {
				t.Fatalf("%v: %d", s, int(e))
			}
		}
	}
}

// TestAfterOfOtherWeights has a root of other weights, of which a row is told.
func TestAfterOfOtherWeights(t *testing.T) { // P15.3
	x := plainOf(runOf(middle, 2, 2*one, 2, 1, 7, 2))
	i := x.stepOf(steps.QueryRow, 1)
	place, _ := plainPlace(x.p.Config, x.l[i], 0)
	for _, y := range []struct {
		row []int
		e   api.Errno
	}{
		{[]int{1, 2, 3, 4}, api.OK}, {[]int{1, 2, 3}, api.ErrForm}, {nil, api.ErrForm}, {[]int{1, 2, 3, 4, 5}, api.ErrForm}, {[]int{0, 0, maxWeight + 1, 0}, api.ErrRange},
	} {
		leaves := slices.Clone(x.leaves)
		leaves[place] = plainNumbers(y.row)
		c := x.claimOf(i)
		c.Weight, c.Proof = y.row, plainProof(place, leaves)
		refuse(t, "of other weights", x.l[i], c, api.ErrProof)
		c.root = plainRoot(leaves)
		want, e := c.plainAfter()
		if d, got := c.after(); d != want || got != y.e || e != y.e {
			t.Errorf("%v: %d, not %d", y.row, int(got), int(y.e))
		}
	}
}

// turned is a claim with something turned anywhere, or nothing.
func turned(chance *rand.Rand, c claim) claim {
	c = c.copied()
	cell := &c.Cells[chance.IntN(len(c.Cells))]
	switch chance.IntN(16) {
	case 0:
		cell.Place += chance.IntN(3) - 1
	case 1:
		cell.L[chance.IntN(len(cell.L))] ^= 1 << chance.IntN(64)
	case 2:
		cell.Proof[chance.IntN(len(cell.Proof))][chance.IntN(32)] ^= 1 << chance.IntN(8)
	case 3:
		cell.Proof = cell.Proof[:chance.IntN(len(cell.Proof)+1)]
	case 4:
		cell.L = cell.L[:chance.IntN(len(cell.L)+1)]
	case 5:
		if len(c.Weight) > 0 {
			c.Weight[chance.IntN(len(c.Weight))] ^= 1 << chance.IntN(64)
		}
	case 6:
		if len(c.Proof) > 0 {
			c.Proof = c.Proof[:chance.IntN(len(c.Proof))]
		}
	case 7:
		c.Weight = c.Weight[:chance.IntN(len(c.Weight)+1)]
	case 8:
		c.root[chance.IntN(32)] ^= 1 << chance.IntN(8)
	case 9:
		c.before[chance.IntN(32)] ^= 1 << chance.IntN(8)
	case 10:
		c.seed[chance.IntN(32)] ^= 1 << chance.IntN(8)
	case 11:
		c.i += chance.IntN(5) - 2
	case 12:
		c.Cells = c.Cells[:chance.IntN(len(c.Cells)+1)]
	case 13:
		c.p.K = 1 + chance.IntN(9)
	}
	return c
}

// TestAfterOfAny turns claims of all kinds anywhere.
func TestAfterOfAny(t *testing.T) { // P15.3, R1
	chance := rand.New(rand.NewPCG(1, 15))
	wrong := map[api.Errno]int{}
	for _, x := range judged() {
		for range 1500 {
			c := turned(chance, x.claimOf(chance.IntN(len(x.l))))
			want, e := c.plainAfter()
			if d, got := c.after(); d != want || got != e {
				t.Fatalf("%v, step %d: %d, not %d", c.p, c.i, int(got), int(e))
			}
			wrong[e]++
		}
	}
	for _, e := range []api.Errno{api.OK, api.ErrForm, api.ErrProof} {
		if wrong[e] < 50 {
			t.Error(wrong)
		}
	}
}

// TestForgersAreFound: whoever tells another number of whatever is told another state, or has no proof.
func TestForgersAreFound(t *testing.T) { // P15.4
	r := runOf(middle, 2, 2*one, 2, 1, 7, 2)
	x := plainOf(r)
	// A model of which one weight is another one has another trace, and the two part at a step that has a row of it.
	other := r
	other.w = made(middle, 2, 2*one)
	other.w.Layers[1].Up.L[0] += one
	y := plainOf(other)
	i := 0
	for x.states[i+1] == y.states[i+1] {
		i++
	}
	if want := (steps.Step{Kind: steps.UpRow, Layer: 1}); x.l[i] != want {
		t.Fatalf("%v, not %v", x.l[i], want)
	}
	if d, e := y.claimOf(i).after(); d != y.states[i+1] || e != api.OK {
		t.Errorf("over its own root: %d", int(e))
	}
	c := y.claimOf(i)
	c.root = x.root
	refuse(t, "over the true root", x.l[i], c, api.ErrProof)
	c.Weight, c.Proof = x.witness(i).Weight, x.witness(i).Proof
	if d, e := c.after(); d != x.states[i+1] || e != api.OK {
		t.Errorf("with the true row: %d", int(e))
	}
}

// TestAskOfTheGreatest fills a context of the greatest model by one token that comes.
func TestAskOfTheGreatest(t *testing.T) { // P15.1, P15.4
	if testing.Short() {
		t.Skip("hashes for some seconds")
	}
	w := made(most, 5, one/4)
	a := model.Ask{Prompt: everyThird(63, 512), Seed: seedOf(2), K: 3, Limit: 1}
	x, e := trace.Build(w, a)
	if e != api.OK || x.Many() != x.Plan().Many() {
		t.Fatal(x.Many(), int(e))
	}
	root, _ := weights.Root(w)
	for _, i := range []int{0, 1, 100000, x.Many() / 2, x.Many() - 2, x.Many() - 1} {
		before, _ := x.State(i)
		want, _ := x.State(i + 1)
		y, wrong := x.Witness(i)
		if d, e := trace.After(x.Plan(), root, a.Seed, i, before, y); d != want || e != api.OK || wrong != api.OK {
			t.Errorf("%d: %d %d", i, int(e), int(wrong))
		}
	}
	if want, e := model.Complete(w, a); !slices.Equal(x.Tokens(), want) || e != api.OK {
		t.Error(x.Tokens(), want)
	}
}
