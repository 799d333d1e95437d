package steps_test

import (
	"fmt"
	"slices"
	"sync"
	"testing"

	"cupel/api"
	"cupel/model"
	"cupel/steps"
	"cupel/weights"
)

// roomBehind is how many things stand behind the length of what is handed in.
const roomBehind = 5

// inRoom is things that stand with room behind them in a longer row; and that row.
func inRoom[T any](v []T, behind T) (stood, room []T) {
	room = append(slices.Clone(v), slices.Repeat([]T{behind}, roomBehind)...)
	return room[:len(v)], room
}

// roomyTask is a task that stands in room; what is told of it is all that stands there now.
func roomyTask(x task) (task, func() string) {
	var rooms [][]int
	reads := make([][]int, len(x.reads))
	for i, l := range x.reads {
		stood, room := inRoom(l, 77)
		reads[i], rooms = stood, append(rooms, room)
	}
	weight, weightRoom := inRoom(x.weight, 77)
	reads, readsRoom := inRoom(reads, []int{78, 79})
	return task{x.s, reads, weight, x.seed}, func() string { return fmt.Sprint(rooms, weightRoom, readsRoom) }
}

// roomyModel is likewise a model.
func roomyModel(w weights.Weights) (weights.Weights, func() string) {
	var rooms [][]int
	for _, l := range lists(&w) {
		stood, room := inRoom(*l, 77)
		*l, rooms = stood, append(rooms, room)
	}
	layers, layersRoom := inRoom(w.Layers, weights.Layer{Norm1: []int{7}})
	w.Layers = layers
	return w, func() string { return fmt.Sprint(w, rooms, layersRoom) }
}

// scribble writes into all that stands in a list, and into what room it has.
func scribble[T any](l []T, x T) {
	l = l[:cap(l)]
	for i := range l {
		l[i] = x
	}
}

// TestDoIsTheCallers has Do and Part neither write into what is handed in, nor read what stands behind it, nor keep any of it.
func TestDoIsTheCallers(t *testing.T) { // R2, R3
	chance := newChance(30)
	for _, p := range []steps.Plan{right(), example(), {Config: wide, Prompt: 2, Limit: 2, K: 3}} {
		b := boardOf(p)
		for _, s := range b.l {
			x, toldNow := roomyTask(anyTask(chance, b, s, func(many int) []int { return numbers(chance, many, 16) }))
			before := toldNow()
			want, e := told(func() []int { return b.tellDo(s, x.reads, x.weight, x.seed) })
			if part, has := p.Part(s, x.reads); has != (b.lineOf(s).part != 0) {
				t.Errorf("%v: %v %v", s, part, has)
			}
			l, wrong := p.Do(s, x.reads, x.weight, x.seed)
			if !slices.Equal(l, want) || e != wrong {
				t.Fatalf("%v: %v %d, not %v %d", s, l, int(wrong), want, int(e))
			}
			scribble(l, 99)
			if toldNow() != before {
				t.Fatalf("%v: what was handed in is turned with what is answered", s)
			}
			l, _ = p.Do(s, x.reads, x.weight, x.seed)
			for _, read := range x.reads {
				scribble(read, 88)
			}
			scribble(x.weight, 88)
			scribble(x.reads, nil)
			if !slices.Equal(l, want) {
				t.Fatalf("%v: what is answered is turned with what was handed in", s)
			}
		}
	}
}

// TestErrorsWriteNothing has tasks that do not fit, or come to an error.
func TestErrorsWriteNothing(t *testing.T) { // R1, R2
	chance := newChance(31)
	b := boardOf(right())
	for range 4000 {
		s := b.l[chance.IntN(len(b.l))]
		x, toldNow := roomyTask(anyTask(chance, b, s, func(many int) []int { return slices.Repeat([]int{high + chance.IntN(2)}, many) }))
		before := toldNow()
		b.Do(s, x.reads, x.weight, x.seed)
		b.Do(s, x.reads[1:], x.weight, x.seed)
		b.Part(s, x.reads[:chance.IntN(len(x.reads))])
		if toldNow() != before {
			t.Fatalf("%v: written into", s)
		}
	}
}

func TestReadsAreTheCallers(t *testing.T) { // R2, R3
	b := boardOf(right())
	for _, s := range b.l {
		l := b.Reads(s)
		scribble(l, 99)
		if other := b.Reads(s); !slices.Equal(other, b.lineOf(s).reads) {
			t.Fatalf("%v: %v", s, other)
		}
	}
}

func TestBeginIsTheCallers(t *testing.T) { // R2, R3
	p := right()
	want := boardOf(p).tellBegin([]int{6, 0, 1})
	prompt, room := inRoom([]int{6, 0, 1}, 7)
	for i := range want {
		cells, e := p.Begin(prompt)
		scribble(cells[i], 99)
		for k := range cells {
			if k != i && !slices.Equal(cells[k], want[k]) || e != api.OK {
				t.Fatalf("cell %d is turned with cell %d", k, i)
			}
		}
		if !slices.Equal(room, []int{6, 0, 1, 7, 7, 7, 7, 7}) {
			t.Fatalf("the prompt is turned with cell %d", i)
		}
	}
	cells, _ := p.Begin(prompt)
	scribble(prompt, 2)
	if !same(cells, want) {
		t.Error("the cells are turned with the prompt")
	}
}

func TestRowIsTheCallers(t *testing.T) { // R2, R3
	w, toldNow := roomyModel(made(middle, 8, one))
	before := toldNow()
	for kind := weights.Embed; kind <= weights.Out; kind++ {
		x := weights.Part{Kind: kind}
		l, _ := steps.Row(w, x)
		want := slices.Clone(l)
		scribble(l, 99)
		if toldNow() != before {
			t.Fatalf("%d: the model is turned with what is answered", kind)
		}
		l, _ = steps.Row(w, x)
		other, _ := roomyModel(made(middle, 8, one))
		kept, _ := steps.Row(other, x)
		for _, v := range lists(&other) {
			scribble(*v, 3)
		}
		if !slices.Equal(l, want) || !slices.Equal(kept, want) {
			t.Errorf("%d: %v %v, not %v", kind, l, kept, want)
		}
	}
}

// TestRunIsTheCallers turns each cell of what Run answers, also behind its length: no other one turns with it, nor what was handed in.
func TestRunIsTheCallers(t *testing.T) { // R2, R3
	p := steps.Plan{Config: middle, Prompt: 2, Limit: 2, K: 3}
	for _, span := range []int{one, maxWeight} {
		w, toldNow := roomyModel(made(middle, 9, span))
		prompt, room := inRoom([]int{1, 4}, 7)
		stop, stopRoom := inRoom([]int{0, 3}, 7)
		a := model.Ask{Prompt: prompt, Seed: seedOf(4), K: 3, Limit: 2, Stop: stop}
		before := toldNow()
		want := boardOf(p).tellRun(w, a)
		for i := range want.cells {
			cells, n, e := steps.Run(w, p, a)
			if !same(cells, want.cells) || n != want.many || e != want.e {
				t.Fatalf("%d %d, not %d %d", n, int(e), want.many, int(want.e))
			}
			scribble(cells[i], 99)
			for k := range cells {
				if k != i && !slices.Equal(cells[k], want.cells[k]) {
					t.Fatalf("cell %d is turned with cell %d", k, i)
				}
			}
			if toldNow() != before || !slices.Equal(room, []int{1, 4, 7, 7, 7, 7, 7}) || !slices.Equal(stopRoom, []int{0, 3, 7, 7, 7, 7, 7}) {
				t.Fatalf("what was handed in is turned with cell %d", i)
			}
		}
		cells, _, _ := steps.Run(w, p, a)
		scribble(prompt, 0)
		for _, v := range lists(&w) {
			scribble(*v, 3)
		}
		if !same(cells, want.cells) {
			t.Error("the cells are turned with what was handed in")
		}
	}
}

// TestErrorsLeaveNoTrace asks what can't be answered between what can.
func TestErrorsLeaveNoTrace(t *testing.T) { // R1, R3
	p := right()
	b := boardOf(p)
	w, far := made(middle, 10, one), made(middle, 10, maxWeight)
	a := model.Ask{Prompt: []int{1, 4, 6}, Seed: seedOf(5), K: 3, Limit: 5}
	for i := range 10 {
		steps.Run(far, p, a)
		steps.Run(w, steps.Plan{}, a)
		steps.Run(w, p, model.Ask{Prompt: []int{i}, K: 3, Limit: 5})
		steps.Row(w, weights.Part{Kind: i + 13})
		p.Begin([]int{i, i})
		p.Do(steps.Step{Kind: i, At: -1}, nil, nil, api.Digest{})
		p.Do(b.l[i], [][]int{{i}}, []int{i}, api.Digest{})
		p.Step(-1 - i)
		noPlans()[i].Begin([]int{i})
		holdRun(t, w, a)
		if s, e := p.Step(100 * i); s != b.l[100*i] || e != api.OK {
			t.Error(s, int(e))
		}
	}
}

// TestSideBySide has one plan and one model be asked at once from many places.
func TestSideBySide(t *testing.T) { // R3
	p := right()
	b := boardOf(p)
	w := made(middle, 11, one)
	a := model.Ask{Prompt: []int{1, 4, 6}, Seed: seedOf(5), K: 3, Limit: 5}
	want := b.tellRun(w, a)
	all := p.Steps()
	var together sync.WaitGroup
	for from := range 8 {
		together.Go(func() {
			for i := range 4 {
				cells, n, e := steps.Run(w, p, a)
				if !same(cells, want.cells) || n != want.many || e != api.OK {
					t.Errorf("Run: %d %d", n, int(e))
				}
				if !slices.Equal(slices.Collect(all), b.l) {
					t.Error("other steps")
				}
				if s, e := p.Step(31*from + i); s != b.l[31*from+i] || e != api.OK {
					t.Errorf("Step: %v %d", s, int(e))
				}
			}
		})
	}
	together.Wait()
}

// FuzzPlan holds all that is told of a plan alone to what is wanted of any.
func FuzzPlan(f *testing.F) { // P12.1, P12.4, R1, R3
	f.Add(7, 4, 2, 3, 9, 5, 3, 5, 3, 100)
	f.Add(3, 2, 1, 1, 2, 2, 1, 1, 1, 31)
	f.Add(512, 64, 8, 4, 64, 64, 1<<62, 1<<62, 512, -1<<63)
	f.Add(512, 64, 8, 4, 64, 64, -1, 64, 512, 1<<63-1)
	f.Fuzz(func(t *testing.T, vocab, dim, heads, layers, ctx, hidden, prompt, limit, k, i int) {
		c := weights.Config{Vocab: vocab, Dim: dim, Heads: heads, Layers: layers, Ctx: ctx, Hidden: hidden}
		p := steps.Plan{Config: c, Prompt: prompt, Limit: limit, K: k}
		_, want := told(func() int { return tellCheck(p) })
		if e := p.Check(); e != want {
			t.Fatalf("%v: %d, not %d", p, int(e), int(want))
		}
		if want != api.OK {
			if p.Many() != 0 || p.Places() != 0 || p.Cells() != 0 || p.Size(i) != 0 || len(slices.Collect(p.Steps())) != 0 {
				t.Fatalf("%v: %d steps", p, p.Many())
			}
			return
		}
		b := boardOf(p)
		if p.Many() != len(b.l) || p.Cells() != len(b.sizes) {
			t.Fatalf("%v: %d steps, %d cells", p, p.Many(), p.Cells())
		}
		s, e := p.Step(i)
		if i >= 0 && i < len(b.l) {
			if s != b.l[i] || e != api.OK || p.Writes(s) != b.lineOf(s).writes {
				t.Fatalf("%v: step %d is %v %d", p, i, s, int(e))
			}
		} else if s != (steps.Step{}) || e != api.ErrRange {
			t.Fatalf("%v: step %d is %v %d", p, i, s, int(e))
		}
	})
}

// FuzzDo holds Reads, Writes, Part and Do to what is wanted of any step and any numbers.
func FuzzDo(f *testing.F) { // P12.2, P12.3, R1, R3
	for kind := range 25 {
		f.Add(kind, 0, 0, 0, 0, one, -one, 2*one, byte(2))
	}
	f.Add(steps.Near, 1, 0, 0, 1, 1<<40, -1<<31, 1, byte(3))
	f.Add(steps.Pick, 1, 0, 0, 0, 1<<63-1, 5, 6, byte(3))
	b := boardOf(steps.Plan{Config: example().Config, Prompt: 1, Limit: 1, K: 2})
	f.Fuzz(func(t *testing.T, kind, at, layer, head, row, x, y, z int, size byte) {
		s := steps.Step{Kind: kind, At: at, Layer: layer, Head: head, Row: row}
		l := []int{x, y, z, x, y, z}[:size%6]
		reads := [][]int{l, {y, z}, {x}, {x, y, z}}
		if b.is[s] {
			for i, cell := range b.lineOf(s).reads {
				if size < 128 {
					reads[i] = []int{z, x, y}[:b.sizes[cell]]
				}
			}
			reads = reads[:len(b.lineOf(s).reads)]
			l = []int{x, y}[:b.weightSize(s)]
			if got := b.Reads(s); !slices.Equal(got, b.lineOf(s).reads) || b.Writes(s) != b.lineOf(s).writes {
				t.Fatalf("%v: %v %d", s, got, b.Writes(s))
			}
		} else {
			holdNone(t, b.Plan, s, reads, l)
		}
		want, had := b.tellPart(s, reads)
		if part, has := b.Part(s, reads); part != want || has != had {
			t.Fatalf("%v, %v: %v %v, not %v %v", s, reads, part, has, want, had)
		}
		holdDo(t, b, s, reads, l, seedOf(size))
	})
}
