package trace_test

import (
	"fmt"
	"math/rand/v2"
	"slices"
	"sync"
	"testing"

	"cupel/api"
	"cupel/bpe"
	"cupel/model"
	"cupel/steps"
	"cupel/trace"
	"cupel/weights"
)

// roomBehind is how many things stand behind the length of what is handed in.
const roomBehind = 5

// inRoom is things that stand with room behind them in a longer row; and that row.
func inRoom[T any](v []T, behind T) (stood, room []T) {
	room = append(slices.Clone(v), slices.Repeat([]T{behind}, roomBehind)...)
	return room[:len(v)], room
}

// scribble writes into all that stands in a list, and into what room it has.
func scribble[T any](l []T, x T) {
	l = l[:cap(l)]
	for i := range l {
		l[i] = x
	}
}

// roomyModel is a model that stands in room; what is told of it is all that stands there now.
func roomyModel(w weights.Weights) (weights.Weights, func() string) {
	w.Layers = slices.Clone(w.Layers)
	var rooms [][]int
	for _, l := range lists(&w) {
		stood, room := inRoom(*l, 77)
		*l, rooms = stood, append(rooms, room)
	}
	alphabet, alphabetRoom := inRoom(w.Alphabet, 7)
	pairs, pairsRoom := inRoom(w.Pairs, bpe.Pair{A: 7})
	layers, layersRoom := inRoom(w.Layers, weights.Layer{Norm1: []int{7}})
	w.Alphabet, w.Pairs, w.Layers = alphabet, pairs, layers
	return w, func() string { return fmt.Sprint(w, rooms, alphabetRoom, pairsRoom, layersRoom) }
}

// roomyClaim is likewise a claim.
func roomyClaim(c claim) (claim, func() string) {
	c = c.copied()
	var rooms []any
	for k := range c.Cells {
		l, room := inRoom(c.Cells[k].L, 77)
		proof, proofRoom := inRoom(c.Cells[k].Proof, seedOf(7))
		c.Cells[k].L, c.Cells[k].Proof = l, proof
		rooms = append(rooms, room, proofRoom)
	}
	cells, cellsRoom := inRoom(c.Cells, trace.Cell{Place: 7})
	weight, weightRoom := inRoom(c.Weight, 77)
	proof, proofRoom := inRoom(c.Proof, seedOf(7))
	c.Cells, c.Weight, c.Proof = cells, weight, proof
	return c, func() string { return fmt.Sprint(c, rooms, cellsRoom, weightRoom, proofRoom) }
}

// TestNothingIsWritten: neither what is handed in, nor what stands behind its length.
func TestNothingIsWritten(t *testing.T) { // R2
	for _, r := range []run{runOf(middle, 2, 2*one, 2, 1, 7, 2), runOf(middle, 10, 3*one, 2, 1, 7, 7)} {
		w, toldNow := roomyModel(r.w)
		prompt, room := inRoom(r.a.Prompt, 5)
		stop, stopRoom := inRoom([]int{0, 3}, 5)
		a := r.a
		a.Prompt, a.Stop = prompt, stop
		tell := func() string { return toldNow() + fmt.Sprint(room, stopRoom) }
		before := tell()
		trace.Build(w, a)
		x, _ := trace.Far(w, a)
		trace.PlanOf(w.Config, a)
		trace.First(x.Plan(), prompt)
		trace.First(x.Plan(), room)
		for i := range x.Many() {
			x.Witness(i)
		}
		x.Tokens()
		x.Last()
		a.K = 0
		trace.Build(w, a)
		trace.Far(w, a)
		if tell() != before {
			t.Error("written into")
		}
	}
	cells := [][]int{{1, 2}, {}, {3}}
	l, room := inRoom(cells[0], 9)
	cells[0] = l
	all, allRoom := inRoom(cells, []int{8})
	trace.State(all)
	if got := fmt.Sprint(all, room, allRoom); got != "[[1 2] [] [3]] [1 2 9 9 9 9 9] [[1 2] [] [3] [8] [8] [8] [8] [8]]" {
		t.Error(got)
	}
}

// TestAfterWritesNothing, whether it has an error or not.
func TestAfterWritesNothing(t *testing.T) { // R1, R2
	chance := rand.New(rand.NewPCG(2, 15))
	for _, x := range judged() {
		for i := range x.l {
			right := x.claimOf(i)
			if i%3 > 0 {
				right = turned(chance, right)
			}
			want, wrong := right.after()
			c, toldNow := roomyClaim(right)
			before := toldNow()
			if d, e := c.after(); d != want || e != wrong || toldNow() != before {
				t.Fatalf("%v: %d, not %d; %s, not %s", x.l[i], int(e), int(wrong), toldNow(), before)
			}
		}
	}
}

// TestNothingIsKept has the caller write over what was handed in, behind the call.
func TestNothingIsKept(t *testing.T) { // P15.1, R2
	for _, r := range []run{runOf(middle, 2, 2*one, 2, 1, 7, 2), runOf(middle, 10, 3*one, 2, 1, 7, 7), runOf(small, 1, 2*one, 1, 3, 2, 7)} {
		want := plainOf(r)
		for _, traced := range []func(weights.Weights, model.Ask) (*trace.Trace, api.Errno){trace.Build, trace.Far} {
			w, _ := roomyModel(r.w)
			a := r.a
			a.Prompt, _ = inRoom(r.a.Prompt, 5)
			a.Stop = []int{1, 2}
			x, e := traced(w, a)
			if e != want.e {
				t.Fatal(int(e))
			}
			for _, l := range lists(&w) {
				scribble(*l, 1<<40)
			}
			scribble(w.Alphabet, 7)
			scribble(w.Pairs, bpe.Pair{A: 9, B: 9})
			scribble(w.Layers, weights.Layer{})
			scribble(a.Prompt, -9)
			scribble(a.Stop, 0)
			if x != nil {
				holdTrace(t, x, want)
			}
		}
	}
}

// TestAnswersAreTheCallers turns all that a trace tells.
func TestAnswersAreTheCallers(t *testing.T) { // P15.1, R2
	for _, r := range []run{runOf(middle, 2, 2*one, 2, 1, 7, 2), runOf(middle, 10, 3*one, 2, 1, 7, 7)} {
		want := plainOf(r)
		x, _ := trace.Far(r.w, r.a)
		scribbleCell := func(c trace.Cell) {
			scribble(c.L, 99)
			scribble(c.Proof, seedOf(99))
		}
		for i := range x.Many() + 1 {
			proof, _ := x.Prove(i)
			scribble(proof, seedOf(99))
			y, _ := x.Witness(i)
			for _, c := range y.Cells {
				scribbleCell(c)
			}
			scribble(y.Cells, trace.Cell{})
			scribble(y.Weight, 99)
			scribble(y.Proof, seedOf(99))
			touched, _ := trace.Touched(x.Plan(), i)
			scribble(touched, 99)
		}
		scribble(x.Tokens(), 99)
		last, _ := x.Last()
		scribbleCell(last)
		holdTrace(t, x, want)
		for i, s := range want.l {
			if l, e := trace.Touched(x.Plan(), i); !slices.Equal(l, plainTouched(want.p, s)) || e != api.OK {
				t.Fatalf("%v: %v %d", s, l, int(e))
			}
		}
	}
}

// TestListsAreApart turns each list of an answer, also behind its length: no other one turns with it.
func TestListsAreApart(t *testing.T) { // R2
	for _, x := range judged() {
		y, _ := trace.Build(x.w, x.a)
		for _, i := range oneOfEach(x) {
			want := x.witness(i)
			for k := range len(want.Cells) + 1 {
				for _, numbers := range []bool{false, true} {
					got, _ := y.Witness(i)
					all := claim{Witness: want}.copied().Witness
					l, proof, l2, proof2 := &got.Weight, &got.Proof, &all.Weight, &all.Proof
					if k < len(want.Cells) {
						l, proof, l2, proof2 = &got.Cells[k].L, &got.Cells[k].Proof, &all.Cells[k].L, &all.Cells[k].Proof
					}
					if numbers {
						scribble(*l, 99)
						scribble(*l2, 99)
					} else {
						scribble(*proof, seedOf(99))
						scribble(*proof2, seedOf(99))
					}
					if !sameWitness(got, all) {
						t.Fatalf("%v: other lists turn with those of cell %d", x.l[i], k)
					}
				}
			}
		}
		last, _ := y.Last()
		proof := slices.Clone(last.Proof)
		scribble(last.L, 99)
		if !slices.Equal(last.Proof, proof) {
			t.Errorf("%v: the proof turns with the numbers", x.p)
		}
	}
}

// TestWhatIsToldStays: an answer is not turned by calls behind it.
func TestWhatIsToldStays(t *testing.T) { // R2, R3
	x := plainOf(runOf(middle, 2, 2*one, 2, 1, 7, 2))
	y, _ := trace.Build(x.w, x.a)
	var told []trace.Witness
	for i := range x.l {
		z, _ := y.Witness(i)
		told = append(told, z)
	}
	for i := range x.l {
		if !sameWitness(told[i], x.witness(i)) {
			t.Fatalf("%v: turned", x.l[i])
		}
	}
}

// TestAskedInAnyOrder: what is told hangs neither on what was told ahead of it, nor on errors.
func TestAskedInAnyOrder(t *testing.T) { // R1, R3
	chance := rand.New(rand.NewPCG(3, 15))
	x := plainOf(runOf(middle, 2, 2*one, 2, 1, 7, 2))
	far := farRuns()[0]
	y, _ := trace.Build(x.w, x.a)
	for _, i := range chance.Perm(len(x.l)) {
		if z, e := y.Witness(i); !sameWitness(z, x.witness(i)) || e != api.OK {
			t.Fatalf("%v: %d", x.l[i], int(e))
		}
		if i%20 > 0 {
			continue
		}
		holdNone(t, y)
		trace.Far(far.w, far.a)
		trace.Build(weights.Weights{}, x.a)
		trace.After(steps.Plan{}, x.root, x.a.Seed, i, x.states[i], x.witness(i))
		if d, e := x.claimOf(i).after(); d != x.states[i+1] || e != api.OK {
			t.Fatalf("%v: %d", x.l[i], int(e))
		}
	}
	holdTrace(t, y, x)
}

// TestSideBySide has one trace be asked at once from many places, and one model be traced.
func TestSideBySide(t *testing.T) { // R3
	x := plainOf(runOf(middle, 2, 2*one, 2, 1, 7, 2))
	y, _ := trace.Build(x.w, x.a)
	var all sync.WaitGroup
	for from := range 8 {
		all.Go(func() {
			for i := from; i < len(x.l); i += 5 {
				z, e := y.Witness(i)
				d, wrong := trace.After(x.p, x.root, x.a.Seed, i, x.states[i], z)
				if e != api.OK || wrong != api.OK || d != x.states[i+1] {
					t.Errorf("%v: %d %d", x.l[i], int(e), int(wrong))
				}
			}
			z, e := trace.Build(x.w, x.a)
			if e != api.OK || z.Root() != y.Root() || !slices.Equal(z.Tokens(), y.Tokens()) {
				t.Errorf("another trace: %d", int(e))
			}
		})
	}
	all.Wait()
}

// FuzzAfter holds After to what is wanted of any numbers, places and digests in place of those of a witness.
func FuzzAfter(f *testing.F) { // P15.3, P15.4, R1
	x := plainOf(runOf(small, 1, 2*one, 2, 1, 5, 2))
	for i := range len(x.l) {
		f.Add(i, i, 0, 0, 0, 0, byte(0), byte(0))
	}
	f.Add(0, 0, 1, 2, 3, 0, byte(1), byte(0))
	f.Add(50, 51, -1, 0, 1<<40, 1, byte(0), byte(7))
	f.Add(-1, 3, 0, 0, 0, 0, byte(255), byte(4))
	f.Fuzz(func(t *testing.T, i, of, place, at, n, cell int, flip, short byte) {
		if of < 0 || of >= len(x.l) {
			return
		}
		c := x.claimOf(of)
		c.i = i
		if cell >= 0 && cell < len(c.Cells) {
			y := &c.Cells[cell]
			y.Place += place
			if at >= 0 && at < len(y.L) {
				y.L[at] += n
			}
			y.Proof = y.Proof[:len(y.Proof)-int(short)%(len(y.Proof)+1)]
		}
		c.root[0] ^= flip
		want, e := c.plainAfter()
		if d, got := c.after(); d != want || got != e {
			t.Fatalf("%v: %d, not %d", c, int(got), int(e))
		}
	})
}
