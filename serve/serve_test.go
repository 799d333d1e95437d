package serve_test

import (
	"math"
	"slices"
	"testing"

	"cupel/api"
	"cupel/model"
	"cupel/serve"
	"cupel/weights"
)

// count asks the counter for tokens behind a prompt.
func count(limit int, prompt ...int) model.Ask {
	return model.Ask{Prompt: prompt, K: 1, Limit: limit}
}

func TestConstants(t *testing.T) { // P14.1, P14.2
	if serve.Admit != 1 || serve.Advance != 2 || serve.Preempt != 3 || serve.Waiting != 1 || serve.Running != 2 || serve.Ended != 3 {
		t.Error("kinds and states")
	}
	if serve.MaxQueue != 64 || serve.MaxBatch != 16 || serve.MaxPreempt != 3 || serve.MaxRequests != 200 {
		t.Error("limits")
	}
}

func TestNew(t *testing.T) { // P14.1, R1
	w := counter(2, 4)
	right := serve.Limits{Queue: 2, Batch: 2, Pages: 2, Size: 2}
	for _, x := range []struct {
		most int
		with func(n int) serve.Limits
	}{
		{64, func(n int) serve.Limits { l := right; l.Queue = n; return l }},
		{16, func(n int) serve.Limits { l := right; l.Batch = n; return l }},
		{256, func(n int) serve.Limits { l := right; l.Pages = n; return l }},
		{64, func(n int) serve.Limits { l := right; l.Size = n; return l }},
	} {
		for _, n := range append(noneOf(x.most), 0, 1, 2, 3, 15, 16, 17, 63, 64, 65, 255, 256, 257) {
			l := x.with(n)
			if n == x.most {
				n-- // it may be, too
			}
			s, e := serve.New(w, l)
			if n < 1 || n >= x.most {
				if s != nil || e != api.ErrSize {
					t.Errorf("%v: %d", l, int(e))
				}
				continue
			}
			if s == nil || e != api.OK {
				t.Fatalf("%v: %d", l, int(e))
			}
			made(t, w, l).over()
		}
	}
	for _, l := range []serve.Limits{{64, 16, 256, 64}, {1, 1, 1, 1}, {64, 1, 1, 64}, {1, 16, 256, 1}} {
		b := made(t, w, l)
		if n := b.s.Free(); n != l.Pages {
			t.Errorf("%v: %d", l, n)
		}
	}
}

// TestWhichErrorIsFirstOfNew has several things be wrong at once.
func TestWhichErrorIsFirstOfNew(t *testing.T) { // P14.1, R1
	right := serve.Limits{Queue: 2, Batch: 2, Pages: 2, Size: 2}
	for _, x := range []struct {
		what string
		turn func(w *weights.Weights)
	}{
		{"a size", func(w *weights.Weights) { w.Config.Vocab = 513 }},
		{"no model", func(w *weights.Weights) { *w = weights.Weights{} }},
		{"the alphabet", func(w *weights.Weights) { w.Alphabet[1] = w.Alphabet[0] }},
		{"no layers", func(w *weights.Weights) { w.Layers = nil }},
		{"a vector", func(w *weights.Weights) { w.Norm = w.Norm[1:] }},
		{"a matrix", func(w *weights.Weights) { w.Out.Rows++ }},
		{"a weight", func(w *weights.Weights) { w.Layers[0].Down.L[1] = maxWeight + 1 }},
	} {
		w := counter(4, 8)
		x.turn(&w)
		want := weights.Check(w)
		for _, l := range []serve.Limits{right, {}, {0, 2, 2, 2}, {2, 17, 2, 2}, {2, 2, 257, 2}, {2, 2, 2, -1}, {65, 0, 0, 65}} {
			if s, e := serve.New(w, l); s != nil || e != want || e == api.OK {
				t.Errorf("%s, %v: %d, not %d", x.what, l, int(e), int(want))
			}
		}
	}
}

// TestNewOfTheGreatest has a model of the greatest sizes.
func TestNewOfTheGreatest(t *testing.T) { // P14.1, P14.4
	w := modelOf(weights.Config{Vocab: 512, Dim: 64, Heads: 8, Layers: 4, Ctx: 64, Hidden: 64}, 5, one/4)
	b := made(t, w, serve.Limits{Queue: 64, Batch: 16, Pages: 256, Size: 64})
	b.submit(model.Ask{Prompt: []int{511, 0, 77}, Seed: seedOf(1), K: 512, Limit: 5})
	b.submit(model.Ask{Prompt: []int{511, 0, 78}, Seed: seedOf(2), K: 7, Limit: 4})
	b.drive(1, 0)
	b.over()
}

func TestSubmit(t *testing.T) { // P14.1
	b := made(t, counter(8, 20), serve.Limits{Queue: 5, Batch: 2, Pages: 6, Size: 3})
	for id := range 5 {
		if got, e := b.submit(count(2, id, id+1)); got != id || e != api.OK {
			t.Fatal(got, int(e))
		}
		if n, e := b.s.State(id); n != serve.Waiting || e != api.OK || b.s.Places(id) != 0 || b.s.Free() != 6 {
			t.Fatal(n, int(e))
		}
		b.stands()
	}
	b.drive()
	b.over()
	for id, want := range [][]int{{2, 3}, {3, 4}, {4, 5}, {5, 6}, {6, 7}} {
		if l, e := b.s.Result(id); !slices.Equal(l, want) || e != api.OK {
			t.Errorf("%d: %v %d, not %v", id, l, int(e), want)
		}
	}
}

// TestWhichErrorIsFirstOfSubmit has several things be wrong at once, also of a server that is full.
func TestWhichErrorIsFirstOfSubmit(t *testing.T) { // P14.1, R1
	b := made(t, counter(4, 12), serve.Limits{Queue: 2, Batch: 1, Pages: 2, Size: 3})
	check := func() {
		t.Helper()
		for _, x := range []struct {
			a model.Ask
			e api.Errno
		}{
			{model.Ask{}, api.ErrSize}, {count(0, 1), api.ErrSize}, {count(-1, 1), api.ErrSize}, {count(math.MinInt, 9), api.ErrSize}, {count(3), api.ErrSize}, {model.Ask{Limit: 99, K: 99}, api.ErrSize}, {model.Ask{Prompt: make([]int, 99), K: 99}, api.ErrSize},
			{count(12, 0), api.ErrLong}, {count(math.MaxInt, 0), api.ErrLong}, {count(1, make([]int, 12)...), api.ErrLong}, {model.Ask{Prompt: []int{-1}, Limit: 12, K: 99}, api.ErrLong},
			{count(6, 4), api.ErrRange}, {count(9, 0, -1), api.ErrRange}, {count(2, math.MinInt), api.ErrRange}, {count(2, math.MaxInt), api.ErrRange}, {model.Ask{Prompt: []int{0}, Limit: 1}, api.ErrRange}, {model.Ask{Prompt: []int{0}, Limit: 11, K: 5}, api.ErrRange}, {model.Ask{Prompt: []int{0}, Limit: 1, K: -1}, api.ErrRange},
			// What it needs is more than there is.
			{count(7, 0), api.ErrLong}, {count(6, 0, 1), api.ErrLong}, {count(1, make([]int, 7)...), api.ErrLong}, {count(11, 3), api.ErrLong},
		} {
			if id, e := b.submit(x.a); id != 0 || e != x.e {
				t.Errorf("%v: %d %d, not %d", x.a, id, int(e), int(x.e))
			}
		}
		b.stands()
	}
	check()
	b.submit(count(6, 0))
	b.submit(count(1, make([]int, 6)...))
	check()
	for _, a := range []model.Ask{count(6, 0), count(1, 0), count(1, make([]int, 6)...)} {
		if id, e := b.submit(a); id != 0 || e != api.ErrFull {
			t.Errorf("%v: %d %d", a, id, int(e))
		}
	}
	for len(b.p.requests) < 200 {
		b.drive()
		b.submit(count(1, 0))
	}
	check()
	b.drive()
	check()
	b.over()
}

// TestNeed has requests that need just all pages, and one more.
func TestNeed(t *testing.T) { // P14.1
	w := counter(2, 64)
	for _, l := range []serve.Limits{{64, 1, 1, 1}, {64, 1, 1, 2}, {64, 1, 1, 30}, {64, 1, 2, 1}, {64, 1, 3, 7}, {64, 1, 20, 3}, {64, 1, 31, 2}, {64, 1, 63, 1}, {64, 1, 62, 1}, {64, 1, 256, 64}, {64, 1, 1, 64}, {64, 1, 1, 63}, {64, 1, 1, 62}} {
		for prompt := 1; prompt < 64; prompt += 3 {
			b := made(t, w, l)
			room := l.Pages*l.Size + 1 - prompt
			for _, limit := range []int{1, room - 1, room, room + 1, 64 - prompt} {
				if limit < 1 || prompt+limit > 64 {
					continue
				}
				_, e := b.s.Submit(count(limit, make([]int, prompt)...))
				if (e == api.OK) != (limit <= room) || e != api.OK && e != api.ErrLong {
					t.Errorf("%v: %d tokens behind %d: %d", l, limit, prompt, int(e))
				}
			}
		}
	}
	// It takes all of the pages that it needs, and no more, though each of its tokens but the last one has a place.
	b := made(t, w, serve.Limits{Queue: 1, Batch: 1, Pages: 3, Size: 4})
	b.submit(count(8, 0, 1, 0, 1, 0))
	b.do(serve.Admit, 0)
	b.advance(0, 11)
	if b.s.Places(0) != 11 || b.s.Free() != 0 {
		t.Error(b.s.Places(0), b.s.Free())
	}
	b.advance(0, 1)
	b.over()
}

// TestQueue has as many wait as may, and one more, also where one was admitted, preempted, ended or cancelled since.
func TestQueue(t *testing.T) { // P14.1
	for _, queue := range []int{1, 2, 63, 64} {
		b := made(t, counter(4, 8), serve.Limits{Queue: queue, Batch: 16, Pages: 256, Size: 2})
		fill := func() {
			t.Helper()
			for len(b.p.of(serve.Waiting)) < queue {
				if _, e := b.submit(count(2, 1, 2)); e != api.OK {
					t.Fatal(int(e))
				}
			}
			for range 2 {
				if id, e := b.submit(count(2, 1, 2)); id != 0 || e != api.ErrFull {
					t.Errorf("%d wait: %d %d", queue, id, int(e))
				}
			}
			b.stands()
		}
		fill()
		b.cancel(0)
		fill()
		b.do(serve.Admit, 1)
		fill()
		// One that runs and is cancelled makes no room, nor one that ends.
		b.do(serve.Admit, 2)
		fill()
		b.cancel(1)
		b.advance(2, 3)
		if n, _ := b.s.State(2); n != serve.Ended {
			t.Fatal(n)
		}
		fill()
		// One that is preempted waits, too, though there are more than may come then.
		b.do(serve.Admit, 3)
		fill()
		b.do(serve.Preempt, 3)
		if n := len(b.p.of(serve.Waiting)); n != queue+1 {
			t.Fatal(n)
		}
		fill()
		b.cancel(3)
		fill()
		b.drive()
		b.over()
		if _, e := b.submit(count(2, 1, 2)); e != api.OK {
			t.Error(int(e))
		}
	}
}

// TestToTheLastRequest has as many come as may, some of which are ended, some cancelled.
func TestToTheLastRequest(t *testing.T) { // P14.1
	for which, then := range map[string]func(b both, id int){
		"wait, in turns": func(b both, id int) {
			if id%64 == 63 {
				b.drive()
			}
		},
		"ended":     func(b both, id int) { b.drive() },
		"cancelled": func(b both, id int) { b.cancel(id) },
		"preempted": func(b both, id int) {
			if id%20 == 7 {
				b.drive(-1, 0)
			}
		},
	} {
		b := made(t, counter(2, 4), serve.Limits{Queue: 64, Batch: 3, Pages: 8, Size: 1})
		for id := range 200 {
			if got, e := b.submit(count(1+id%2, id%2)); got != id || e != api.OK {
				t.Fatalf("%s: %d: %d %d", which, id, got, int(e))
			}
			then(b, id)
		}
		full := func() {
			t.Helper()
			for range 2 {
				if id, e := b.submit(count(1, 0)); id != 0 || e != api.ErrFull {
					t.Errorf("%s: %d %d", which, id, int(e))
				}
			}
			b.stands()
		}
		full()
		b.drive(5, 1)
		full()
		b.over()
	}
}

func TestCancel(t *testing.T) { // P14.1, P14.3
	b := made(t, counter(8, 20), serve.Limits{Queue: 9, Batch: 3, Pages: 9, Size: 2})
	for range 4 {
		b.submit(count(3, 1, 2, 3))
	}
	cancelled := func(id int) {
		t.Helper()
		if e := b.cancel(id); e != api.OK {
			t.Errorf("%d: %d", id, int(e))
		}
		for range 2 {
			if n, e := b.s.State(id); n != serve.Ended || e != api.OK || b.s.Places(id) != 0 {
				t.Errorf("%d: %d %d, %d places", id, n, int(e), b.s.Places(id))
			}
			if l, e := b.s.Result(id); len(l) != 0 || e != api.ErrCancel {
				t.Errorf("%d: %v %d", id, l, int(e))
			}
			b.stands()
			if e := b.cancel(id); e != api.ErrState {
				t.Errorf("%d: %d", id, int(e))
			}
		}
	}
	// One that waits.
	cancelled(0)
	b.do(serve.Admit, 1)
	b.advance(1, 3)
	b.do(serve.Admit, 2)
	b.advance(2, 2)
	if b.s.Free() != 6 || b.s.Places(1) != 3 || b.s.Places(2) != 4 {
		t.Error(b.s.Free(), b.s.Places(1), b.s.Places(2))
	}
	// One that runs, with what came, and with pages that another one shares.
	cancelled(1)
	if b.s.Free() != 7 || b.s.Places(2) != 4 {
		t.Error(b.s.Free(), b.s.Places(2))
	}
	// One that was preempted.
	b.do(serve.Preempt, 2)
	cancelled(2)
	b.do(serve.Admit, 3)
	b.advance(3, 5)
	if e := b.cancel(3); e != api.ErrState {
		t.Error(int(e))
	}
	if l, e := b.s.Result(3); !slices.Equal(l, []int{4, 5, 6}) || e != api.OK {
		t.Error(l, int(e))
	}
	b.over()
}

// TestCancelMakesRoom: what one that runs has is there for the next one.
func TestCancelMakesRoom(t *testing.T) { // P14.1, P14.2
	b := made(t, counter(4, 12), serve.Limits{Queue: 9, Batch: 2, Pages: 4, Size: 2})
	for range 30 {
		b.submit(count(4, 0, 1, 2))
		id := len(b.p.requests) - 1
		b.do(serve.Admit, id)
		b.advance(id, id%7)
		b.submit(count(4, 0, 1, 2))
		if id%7 < 6 {
			b.cancel(id)
		}
		b.stands()
		b.cancel(id + 1)
	}
	b.over()
}

// TestWrongIDs asks for requests that there are not.
func TestWrongIDs(t *testing.T) { // P14.1, P14.3, R1
	b := made(t, counter(2, 4), serve.Limits{Queue: 3, Batch: 2, Pages: 4, Size: 1})
	for many := range 4 {
		for _, id := range noneOf(many) {
			if e := b.cancel(id); e != api.ErrNone {
				t.Errorf("Cancel of %d: %d", id, int(e))
			}
			if n, e := b.s.State(id); n != 0 || e != api.ErrNone {
				t.Errorf("State of %d: %d %d", id, n, int(e))
			}
			if l, e := b.s.Result(id); len(l) != 0 || e != api.ErrNone {
				t.Errorf("Result of %d: %v %d", id, l, int(e))
			}
			if n := b.s.Places(id); n != 0 {
				t.Errorf("Places of %d: %d", id, n)
			}
		}
		b.stands()
		b.submit(count(1, 0))
		b.step(0)
		b.step(1)
	}
}

// TestNilServer asks all calls of no server, in any order.
func TestNilServer(t *testing.T) { // P14.1, P14.2, P14.3, R1
	var s *serve.Server
	for range 2 {
		for _, a := range []model.Ask{{}, count(1, 0), count(-1, -1)} {
			if id, e := s.Submit(a); id != 0 || e != api.ErrNil {
				t.Error(id, int(e))
			}
		}
		if l := s.Acts(); len(l) != 0 {
			t.Error(l)
		}
		for _, picks := range [][]int{nil, {}, {0}, {1, -1, math.MinInt}} {
			if n, e := s.Drive(picks...); n != 0 || e != api.ErrNil {
				t.Error(n, int(e))
			}
		}
		for _, id := range append(noneOf(1), 0) {
			if e := s.Cancel(id); e != api.ErrNil {
				t.Errorf("Cancel of %d: %d", id, int(e))
			}
			if act, e := s.Step(id); act != (serve.Act{}) || e != api.ErrNil {
				t.Errorf("Step by %d: %v %d", id, act, int(e))
			}
			if n, e := s.State(id); n != 0 || e != api.ErrNil {
				t.Errorf("State of %d: %d %d", id, n, int(e))
			}
			if l, e := s.Result(id); len(l) != 0 || e != api.ErrNil {
				t.Errorf("Result of %d: %v %d", id, l, int(e))
			}
			if n := s.Places(id); n != 0 {
				t.Errorf("Places of %d: %d", id, n)
			}
		}
		if n := s.Free(); n != 0 {
			t.Error(n)
		}
	}
}
