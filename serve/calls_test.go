package serve_test

import (
	"crypto/sha256"
	"encoding/hex"
	"fmt"
	"math/rand/v2"
	"slices"
	"strings"
	"testing"

	"cupel/api"
	"cupel/model"
	"cupel/serve"
	"cupel/weights"
)

// call asks a call drawn at random.
func call(b both, c *rand.Rand) {
	b.Helper()
	id := c.IntN(len(b.p.requests) + 1)
	switch kind := c.IntN(100); {
	case kind < 25:
		b.submit(anyAsk(c, b.p.w.Config))
	case kind < 28:
		b.cancel(id)
	case kind == 28 && c.IntN(10) == 0:
		b.drive(c.IntN(9)-4, c.IntN(9)-4, c.IntN(9)-4)
	case kind < 70:
		// An Advance, if there is one: else most requests would soon have been preempted as often as they may be.
		if l := b.p.of(serve.Running); len(l) > 0 {
			b.do(serve.Advance, l[c.IntN(len(l))])
		}
	default:
		b.step(c.IntN(2000) - 1000)
	}
}

// TestAnyCalls holds servers of many sizes, over long rows of calls, against plain ones.
func TestAnyCalls(t *testing.T) { // P14.1, P14.2, P14.3, P14.4
	c := newChance(1)
	wide := weights.Config{Vocab: 12, Dim: 16, Heads: 8, Layers: 2, Ctx: 14, Hidden: 6}
	many := map[api.Errno]int{}
	for i, x := range []struct {
		w     weights.Weights
		l     serve.Limits
		calls int
	}{
		{modelOf(small, 1, 2*one), serve.Limits{Queue: 1, Batch: 1, Pages: 2, Size: 4}, 300},
		{modelOf(small, 2, one), serve.Limits{Queue: 5, Batch: 2, Pages: 8, Size: 1}, 400},
		{modelOf(small, 3, one), serve.Limits{Queue: 64, Batch: 16, Pages: 256, Size: 64}, 900},
		{modelOf(middle, 4, one), serve.Limits{Queue: 64, Batch: 16, Pages: 40, Size: 2}, 900},
		{modelOf(middle, 5, one), serve.Limits{Queue: 3, Batch: 16, Pages: 14, Size: 1}, 400},
		{modelOf(middle, 6, one), serve.Limits{Queue: 9, Batch: 7, Pages: 30, Size: 3}, 600},
		{modelOf(wide, 7, one), serve.Limits{Queue: 6, Batch: 5, Pages: 12, Size: 5}, 400},
		{spoiled(modelOf(middle, 8, one)), serve.Limits{Queue: 20, Batch: 6, Pages: 60, Size: 2}, 600},
		{spoiled(modelOf(small, 9, one)), serve.Limits{Queue: 8, Batch: 3, Pages: 6, Size: 3}, 500},
		{counter(8, 20), serve.Limits{Queue: 30, Batch: 10, Pages: 50, Size: 2}, 600},
	} {
		b := made(t, x.w, x.l)
		for n := range x.calls {
			call(b, c)
			if n%5 == 0 || n > x.calls-20 {
				b.stands()
			}
		}
		b.drive([][]int{nil, {-1}, {1, 2, 3}, {5, -7, 0, 0}}[i%4]...)
		b.over()
		for _, r := range b.p.requests {
			many[r.e]++
			many[api.Errno(-r.preempted)]++
		}
	}
	if many[api.OK] < 300 || many[api.ErrOver] < 50 || many[api.ErrCancel] < 50 || many[-3] < 100 {
		t.Error(many)
	}
}

// TestWhateverRunsBeside has the same requests in servers of all kinds: each one ends with what the model tells of it alone.
func TestWhateverRunsBeside(t *testing.T) { // P14.4
	c := newChance(2)
	for _, w := range []weights.Weights{modelOf(small, 11, 2*one), modelOf(middle, 12, one), spoiled(modelOf(middle, 13, one)), counter(6, 16)} {
		var asks []model.Ask
		var want []string
		for range 24 {
			a := anyAsk(c, w.Config)
			l, e := model.Complete(w, a)
			asks, want = append(asks, a), append(want, fmt.Sprint(l, int(e)))
		}
		for _, l := range []serve.Limits{{24, 1, 24, 1}, {24, 1, 1, 64}, {24, 16, 256, 1}, {24, 16, 256, 64}, {24, 3, 30, 1}, {24, 16, 24, 1}, {24, 16, 3, 20}, {24, 5, 20, 2}} {
			for _, picks := range [][]int{nil, {0}, {-1}, {1}, {-1, 0, 0, 1}, {3, 1, 4, 1, 5, 9, 2, 6}, {c.IntN(99), c.IntN(99), c.IntN(99), c.IntN(99)}} {
				s, e := serve.New(w, l)
				if e != api.OK {
					t.Fatal(l, int(e))
				}
				for id, a := range asks {
					if got, e := s.Submit(a); got != id || e != api.OK {
						t.Fatalf("%v: %d %d", l, got, int(e))
					}
				}
				if _, e := s.Drive(picks...); e != api.OK || s.Free() != l.Pages || len(s.Acts()) != 0 {
					t.Fatalf("%v %v: %d, %d are free", l, picks, int(e), s.Free())
				}
				for id := range asks {
					tokens, e := s.Result(id)
					if got := fmt.Sprint(tokens, int(e)); got != want[id] {
						t.Fatalf("%v %v: %s, not %s", l, picks, got, want[id])
					}
				}
			}
		}
	}
}

// lot is numbers by a rule that any program can follow.
type lot uint64

func (l *lot) draw(many int) int {
	*l = *l*6364136223846793005 + 1442695040888963407
	return int(*l>>33) % many
}

// ask is what is asked of a model, most of which begin alike.
func (l *lot) ask(of weights.Config) model.Ask {
	var a model.Ask
	for range 1 + l.draw(5) {
		token := 1
		if l.draw(3) == 0 {
			token = l.draw(of.Vocab)
		}
		a.Prompt = append(a.Prompt, token)
	}
	a.Seed = seedOf(byte(l.draw(256)))
	a.K = 1 + l.draw(of.Vocab)
	a.Limit = 1 + l.draw(9)
	for range l.draw(3) {
		a.Stop = append(a.Stop, l.draw(of.Vocab))
	}
	return a
}

// history is what a server has answered to calls that a lot tells, as one text.
type history struct {
	strings.Builder
	s     *serve.Server
	count int
}

func (h *history) line(l ...int) {
	for _, n := range l {
		fmt.Fprint(h, n, " ")
	}
	fmt.Fprintln(h)
}

func (h *history) result(id int) {
	l, e := h.s.Result(id)
	h.line(append(l, int(e))...)
}

func (h *history) call(seed *lot, of weights.Config) {
	switch kind := seed.draw(20); {
	case kind < 5:
		id, e := h.s.Submit(seed.ask(of))
		h.line(id, int(e))
		if e == api.OK {
			h.count++
		}
	case kind == 5:
		h.line(int(h.s.Cancel(seed.draw(h.count + 1))))
	case kind == 6 && seed.draw(6) == 0:
		first := seed.draw(9) - 4
		n, e := h.s.Drive(first, seed.draw(9)-4)
		h.line(n, int(e))
	default:
		act, e := h.s.Step(seed.draw(1000) - 500)
		h.line(act.Kind, act.ID, int(e))
	}
	var acts []int
	for _, act := range h.s.Acts() {
		acts = append(acts, act.Kind, act.ID)
	}
	h.line(acts...)
	id := seed.draw(h.count + 1)
	state, e := h.s.State(id)
	h.line(state, int(e), h.s.Places(id), h.s.Free())
	h.result(id)
}

func historyOf(s *serve.Server, of weights.Config, seed lot, many int) string {
	h := history{s: s}
	for range many {
		h.call(&seed, of)
	}
	n, e := s.Drive()
	h.line(n, int(e))
	for id := range h.count {
		h.result(id)
	}
	h.line(s.Free())
	return h.String()
}

// TestHistoryTold has the beginnings of digests of what another program has worked out, its model's numbers, too.
func TestHistoryTold(t *testing.T) { // P14.1, P14.2, P14.3, P14.4
	two := weights.Config{Vocab: 5, Dim: 2, Heads: 1, Layers: 1, Ctx: 16, Hidden: 3}
	three := weights.Config{Vocab: 7, Dim: 4, Heads: 2, Layers: 3, Ctx: 14, Hidden: 5}
	wide := weights.Config{Vocab: 12, Dim: 16, Heads: 8, Layers: 2, Ctx: 14, Hidden: 6}
	for _, x := range []struct {
		w    weights.Weights
		l    serve.Limits
		seed lot
		many int
		want string
	}{
		{modelOf(small, 1, 2*one), serve.Limits{Queue: 4, Batch: 1, Pages: 3, Size: 4}, 101, 300, "65e200c2b5d79702"},
		{modelOf(two, 2, one), serve.Limits{Queue: 3, Batch: 2, Pages: 8, Size: 2}, 102, 400, "1f963f14fcc36424"},
		{modelOf(three, 3, one), serve.Limits{Queue: 8, Batch: 4, Pages: 16, Size: 1}, 103, 400, "9d6cc0c370ef4947"},
		{modelOf(middle, 4, one), serve.Limits{Queue: 64, Batch: 16, Pages: 256, Size: 64}, 104, 1300, "e8abce22e10bc326"},
		{modelOf(middle, 5, one), serve.Limits{Queue: 64, Batch: 16, Pages: 30, Size: 3}, 105, 700, "527b901a1b537a2c"},
		{modelOf(wide, 6, one), serve.Limits{Queue: 5, Batch: 3, Pages: 9, Size: 5}, 106, 400, "d01c95860590fd23"},
		{spoiled(modelOf(weights.Config{Vocab: 4, Dim: 6, Heads: 3, Layers: 4, Ctx: 13, Hidden: 5}, 7, one)), serve.Limits{Queue: 6, Batch: 5, Pages: 20, Size: 2}, 107, 400, "353a9fee9f2ccf3d"},
		{spoiled(modelOf(weights.Config{Vocab: 4, Dim: 4, Heads: 1, Layers: 4, Ctx: 12, Hidden: 4}, 8, one)), serve.Limits{Queue: 9, Batch: 6, Pages: 30, Size: 2}, 108, 500, "59a935071ebd5fd0"},
	} {
		told := historyOf(made(t, x.w, x.l).s, x.w.Config, x.seed, x.many)
		d := sha256.Sum256([]byte(told))
		if got := hex.EncodeToString(d[:8]); got != x.want {
			t.Errorf("%v: %s, not %s", x.l, got, x.want)
		}
		// The same once more: no order of a map is to be seen.
		if again := historyOf(made(t, x.w, x.l).s, x.w.Config, x.seed, x.many); again != told {
			t.Errorf("%v: another answer each time", x.l)
		}
	}
}

// wrong asks calls that have an error.
func wrong(b both, c *rand.Rand) {
	b.Helper()
	of := b.p.w.Config
	for _, a := range []model.Ask{{}, {Prompt: []int{of.Vocab}, K: 1, Limit: 1}, {Prompt: []int{0}, K: of.Vocab + 1, Limit: 1}, {Prompt: []int{0}, K: 1, Limit: of.Ctx}} {
		if id, e := b.submit(a); id != 0 || e == api.OK {
			b.Fatalf("Submit: %d %d", id, int(e))
		}
	}
	none := noneOf(len(b.p.requests))
	b.cancel(none[c.IntN(len(none))])
	if l := b.p.of(serve.Ended); len(l) > 0 {
		b.cancel(l[c.IntN(len(l))])
	}
	if len(b.p.acts()) == 0 {
		b.step(c.IntN(100))
	}
	if len(b.p.of(serve.Waiting)) >= b.p.l.Queue || len(b.p.requests) == 200 {
		b.submit(anyAsk(c, of))
	}
}

// TestErrorsLeaveNoTrace has two servers be asked the same, one of them also what it can't answer.
func TestErrorsLeaveNoTrace(t *testing.T) { // P14.1, P14.2, R1, R3
	w := spoiled(modelOf(middle, 21, one))
	l := serve.Limits{Queue: 6, Batch: 4, Pages: 20, Size: 3}
	a, b := made(t, w, l), made(t, w, l)
	forA, forB, c := newChance(3), newChance(3), newChance(4)
	for range 500 {
		call(a, forA)
		wrong(b, c)
		call(b, forB)
		wrong(b, c)
		b.stands()
		if !slices.Equal(a.s.Acts(), b.s.Acts()) || a.s.Free() != b.s.Free() {
			t.Fatal(a.s.Acts(), b.s.Acts(), a.s.Free(), b.s.Free())
		}
	}
	if n := a.drive(1, 2); n != b.drive(1, 2) {
		t.Error(n)
	}
	a.over()
	b.over()
}

// TestServersGoEachForItself has many servers be asked in turns.
func TestServersGoEachForItself(t *testing.T) { // R3
	c := newChance(5)
	var all []both
	for i := range 8 {
		all = append(all, made(t, modelOf(small, uint64(i%3), one), serve.Limits{Queue: 1 + i, Batch: 1 + i/2, Pages: 8 + i, Size: 1 + i%3}))
	}
	for range 150 {
		for _, b := range all {
			call(b, c)
		}
	}
	for _, b := range all {
		b.stands()
		b.drive()
		b.over()
	}
}

// FuzzCalls has each byte be a call.
func FuzzCalls(f *testing.F) { // P14.1, P14.2, P14.3, P14.4, R1
	f.Add(2, 2, 8, 2, []byte{0, 1, 1, 0, 1, 5, 9, 1, 1})
	f.Add(1, 1, 2, 8, []byte{0, 4, 8, 1, 1, 2, 3, 3})
	f.Add(64, 16, 256, 64, []byte{0, 4, 8, 12, 1, 1, 1, 1, 9, 17, 33, 65})
	f.Add(0, 1, 1, 1, []byte{0})
	f.Add(1, 17, 1, 1, []byte{0})
	f.Add(1, 1, 257, 1, []byte{0})
	w := spoiled(modelOf(small, 31, one))
	f.Fuzz(func(t *testing.T, queue, batch, pages, size int, calls []byte) {
		l := serve.Limits{Queue: queue, Batch: batch, Pages: pages, Size: size}
		if s, e := serve.New(w, l); queue < 1 || queue > 64 || batch < 1 || batch > 16 || pages < 1 || pages > 256 || size < 1 || size > 64 {
			if s != nil || e != api.ErrSize {
				t.Fatal(l, int(e))
			}
			return
		}
		b := made(t, w, l)
		for _, x := range calls[:min(len(calls), 200)] {
			at := int(x >> 2)
			switch x & 3 {
			case 0:
				b.submit(anyAsk(newChance(uint64(at%16)), small))
			case 1, 2:
				b.step(at - 20)
			case 3:
				b.cancel(at - 1)
			}
			b.stands()
		}
		b.drive(len(calls), 1)
		b.over()
	})
}
