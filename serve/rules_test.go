package serve_test

import (
	"fmt"
	"slices"
	"sync"
	"testing"

	"cupel/api"
	"cupel/bpe"
	"cupel/model"
	"cupel/serve"
	"cupel/weights"
)

// roomBehind is how many things stand behind the length of what is handed in.
const roomBehind = 5

// inRoom is things that stand with room behind them in a longer row; and that row.
func inRoom[T any](v []T, behind T) (stood, room []T) {
	room = append(slices.Clone(v), slices.Repeat([]T{behind}, roomBehind)...)
	return room[:len(v)], room
}

// scribble writes into all that stands in a list, and into what room it has.
func scribble[T any](l []T, x T) {
	l = l[:cap(l)]
	for i := range l {
		l[i] = x
	}
}

// cloned is the same model in memory of its own.
func cloned(w weights.Weights) weights.Weights {
	w.Alphabet, w.Pairs, w.Layers = slices.Clone(w.Alphabet), slices.Clone(w.Pairs), slices.Clone(w.Layers)
	for _, y := range lists(&w) {
		*y.l = slices.Clone(*y.l)
	}
	return w
}

// TestNothingIsWritten: neither what is handed in, nor what stands behind its length.
func TestNothingIsWritten(t *testing.T) { // R2
	w := cloned(modelOf(middle, 71, one))
	var rooms [][]int
	for _, y := range lists(&w) {
		stood, room := inRoom(*y.l, 77)
		*y.l, rooms = stood, append(rooms, room)
	}
	w.Layers, _ = inRoom(w.Layers, weights.Layer{Norm1: []int{7}})
	prompt, promptRoom := inRoom([]int{1, 2}, 5)
	stop, stopRoom := inRoom([]int{-1}, 4)
	picks, picksRoom := inRoom([]int{0, 0, -1, 1}, 99)
	tell := func() string {
		return fmt.Sprint(w, rooms, w.Layers[:cap(w.Layers)], promptRoom, stopRoom, picksRoom)
	}
	before := tell()
	s, e := serve.New(w, serve.Limits{Queue: 9, Batch: 4, Pages: 30, Size: 2})
	if e != api.OK {
		t.Fatal(int(e))
	}
	for i := range 9 {
		a := model.Ask{Prompt: prompt, Seed: seedOf(byte(i)), K: 6, Limit: 9, Stop: stop}
		if _, e := s.Submit(a); e != api.OK {
			t.Fatal(int(e))
		}
		s.Submit(model.Ask{Prompt: prompt, K: 99, Limit: 1})
		s.Submit(model.Ask{Prompt: promptRoom, K: 1, Limit: 99})
	}
	for i := range 40 {
		s.Step(i)
		s.Acts()
	}
	s.Drive(picks...)
	for i := range 9 {
		s.Result(i)
	}
	if tell() != before {
		t.Error("written into")
	}
}

// TestSubmitKeepsNothing has the caller write over what was handed in, at any time behind the call.
func TestSubmitKeepsNothing(t *testing.T) { // P14.1, P14.4, R2
	w := modelOf(middle, 72, one)
	c := newChance(8)
	for behind := range 12 {
		b := made(t, w, serve.Limits{Queue: 9, Batch: 3, Pages: 30, Size: 2})
		var handed []model.Ask
		for range 9 {
			a := anyAsk(c, middle)
			a.Stop = append(a.Stop, -1)
			mine := a
			mine.Prompt, _ = inRoom(a.Prompt, 5)
			mine.Stop, _ = inRoom(a.Stop, 1)
			b.p.submit(a)
			b.s.Submit(mine)
			handed = append(handed, mine)
		}
		for i := range 60 {
			if i == 5*behind {
				for _, a := range handed {
					scribble(a.Prompt, 1<<40)
					scribble(a.Stop, i%6)
				}
			}
			b.step(i)
			b.stands()
		}
		b.drive(0, 1)
		b.over()
	}
}

// TestOneAskManyTimes has the caller hand in the same memory again and again, with other tokens in it.
func TestOneAskManyTimes(t *testing.T) { // P14.1, R2
	b := made(t, counter(8, 20), serve.Limits{Queue: 8, Batch: 8, Pages: 40, Size: 2})
	a := model.Ask{Prompt: []int{0, 0}, K: 1, Limit: 5, Stop: []int{0}}
	for i := range 8 {
		a.Prompt[0], a.Prompt[1], a.Stop[0] = i, (i+1)%8, (i+4)%8
		own := a
		own.Prompt, own.Stop = slices.Clone(a.Prompt), slices.Clone(a.Stop)
		b.p.submit(own)
		b.s.Submit(a)
	}
	b.drive()
	b.over()
	for i := range 8 {
		if l, e := b.s.Result(i); !slices.Equal(l, []int{(i + 2) % 8, (i + 3) % 8, (i + 4) % 8}) || e != api.OK {
			t.Error(i, l, int(e))
		}
	}
}

// TestNewKeepsNothing has the caller write over a model behind New: the server's stays as it is.
func TestNewKeepsNothing(t *testing.T) { // P14.1, P14.4, R2
	for behind := range 6 {
		w := modelOf(middle, 73, one)
		b := made(t, w, serve.Limits{Queue: 9, Batch: 3, Pages: 30, Size: 2})
		b.p.w = cloned(w)
		c := newChance(9)
		for range 9 {
			b.submit(anyAsk(c, middle))
		}
		for i := range 10 * behind {
			b.step(i)
		}
		for _, y := range lists(&w) {
			scribble(*y.l, 1<<40)
		}
		scribble(w.Alphabet, 7)
		scribble(w.Pairs, bpe.Pair{A: 9, B: 9})
		scribble(w.Layers, weights.Layer{})
		b.stands()
		b.drive(0, 1)
		b.over()
		b.submit(anyAsk(c, middle))
		b.drive()
		b.over()
	}
}

// TestAnswersAreTheCallers turns what Acts and Result tell.
func TestAnswersAreTheCallers(t *testing.T) { // P14.2, P14.3, R2
	w := modelOf(middle, 74, one)
	b := made(t, w, serve.Limits{Queue: 16, Batch: 5, Pages: 40, Size: 3})
	c := newChance(10)
	turn := func() {
		t.Helper()
		scribble(b.s.Acts(), serve.Act{Kind: 9, ID: -9})
		for id := range b.p.requests {
			l, _ := b.s.Result(id)
			scribble(l, -7)
			_ = append(l, 8, 8, 8)
		}
		b.stands()
	}
	for range 16 {
		b.submit(anyAsk(c, middle))
		turn()
	}
	for range 150 {
		b.step(c.IntN(100))
		turn()
	}
	b.drive()
	turn()
	b.over()
}

// TestWhatIsToldStays: an answer is not turned by calls behind it.
func TestWhatIsToldStays(t *testing.T) { // P14.2, P14.3, R2
	b := made(t, modelOf(middle, 75, one), serve.Limits{Queue: 16, Batch: 5, Pages: 40, Size: 3})
	c := newChance(11)
	var acts [][]serve.Act
	var results [][]int
	var texts []string
	for range 200 {
		b.submit(anyAsk(c, middle))
		b.step(c.IntN(100))
		acts = append(acts, b.s.Acts())
		l, _ := b.s.Result(c.IntN(len(b.p.requests)))
		results = append(results, l)
		texts = append(texts, fmt.Sprint(acts[len(acts)-1], l))
	}
	b.drive(2, 1, 0)
	b.over()
	for i, text := range texts {
		if got := fmt.Sprint(acts[i], results[i]); got != text {
			t.Errorf("%s, not %s", got, text)
		}
	}
}

// TestAskedTwice: what is told, and what is not, makes no difference to what comes.
func TestAskedTwice(t *testing.T) { // R3
	w := modelOf(middle, 76, one)
	l := serve.Limits{Queue: 9, Batch: 4, Pages: 20, Size: 2}
	a, b := made(t, w, l), made(t, w, l)
	forA, forB := newChance(12), newChance(12)
	for range 300 {
		call(a, forA)
		for range 3 {
			a.stands()
		}
		call(b, forB)
	}
	b.stands()
	if n := a.drive(3, -2, 1); n != b.drive(3, -2, 1) {
		t.Error(n)
	}
	a.over()
	b.over()
}

// TestSideBySide has many servers of one model be asked at once from many places.
func TestSideBySide(t *testing.T) { // R3
	w := modelOf(middle, 77, one)
	l := serve.Limits{Queue: 9, Batch: 4, Pages: 20, Size: 2}
	want := historyOf(made(t, w, l).s, middle, 5, 200)
	var all sync.WaitGroup
	for range 8 {
		all.Go(func() {
			for range 3 {
				s, e := serve.New(w, l)
				if got := historyOf(s, middle, 5, 200); got != want || e != api.OK {
					t.Error("another answer each time")
				}
			}
		})
	}
	all.Wait()
}

// TestToldSideBySide has one server be asked at once from many places what turns nothing.
func TestToldSideBySide(t *testing.T) { // R3
	b := made(t, modelOf(middle, 78, one), serve.Limits{Queue: 9, Batch: 4, Pages: 40, Size: 2})
	c := newChance(13)
	for range 9 {
		b.submit(anyAsk(c, middle))
	}
	for i := range 40 {
		b.step(3 * i)
	}
	tell := func() string {
		text := fmt.Sprint(b.s.Acts(), b.s.Free())
		for id := range 10 {
			n, e := b.s.State(id)
			l, wrong := b.s.Result(id)
			text += fmt.Sprint(n, int(e), l, int(wrong), b.s.Places(id))
		}
		return text
	}
	want := tell()
	var all sync.WaitGroup
	for range 8 {
		all.Go(func() {
			for range 20 {
				if got := tell(); got != want {
					t.Errorf("%s, not %s", got, want)
				}
			}
		})
	}
	all.Wait()
}
