package serve_test

import (
	"fmt"
	"math"
	"slices"
	"testing"

	"cupel/api"
	"cupel/model"
	"cupel/serve"
)

// acts tells what may be done next as letters: A to admit, + to advance, P to preempt.
func (b both) acts() string {
	text := ""
	for _, act := range b.s.Acts() {
		text += fmt.Sprint([]string{"?", "A", "+", "P"}[act.Kind], act.ID, " ")
	}
	return text
}

// may has just that be done next.
func (b both) may(want string) {
	b.Helper()
	if got := b.acts(); got != want {
		b.Errorf("%s may be done, not %s", got, want)
	}
	b.stands()
}

func TestActs(t *testing.T) { // P14.2
	b := made(t, counter(8, 20), serve.Limits{Queue: 9, Batch: 3, Pages: 20, Size: 3})
	b.may("")
	for range 5 {
		b.submit(count(4, 1, 2))
	}
	b.may("A0 ")
	b.do(serve.Admit, 0)
	b.may("A1 +0 P0 ")
	b.do(serve.Admit, 1)
	b.may("A2 +0 +1 P0 P1 ")
	b.do(serve.Preempt, 0)
	b.may("A0 +1 P1 ")
	b.cancel(0)
	b.may("A2 +1 P1 ")
	b.do(serve.Admit, 2)
	b.do(serve.Admit, 3)
	b.may("+1 +2 +3 P1 P2 P3 ")
	b.do(serve.Preempt, 2)
	b.do(serve.Preempt, 1)
	b.may("A1 +3 P3 ")
	b.advance(3, 4)
	b.may("A1 +3 P3 ")
	b.advance(3, 1)
	b.may("A1 ")
	for range 3 {
		b.do(serve.Admit, 1)
		b.may("A2 +1 P1 ")
		if b.p.requests[1].preempted < 2 {
			b.do(serve.Preempt, 1)
		} else {
			break
		}
	}
	// The third time is the last one.
	b.do(serve.Preempt, 1)
	b.may("A1 ")
	b.do(serve.Admit, 1)
	b.may("A2 +1 ")
	b.do(serve.Admit, 2)
	b.do(serve.Admit, 4)
	b.may("+1 +2 +4 P2 P4 ")
	b.cancel(1)
	b.may("+2 +4 P2 P4 ")
	b.drive()
	b.may("")
	b.over()
}

// TestPreempt has one that runs be preempted as often as it may, at any place.
func TestPreempt(t *testing.T) { // P14.2, P14.4
	w := modelOf(middle, 41, one)
	a := model.Ask{Prompt: []int{1, 2, 3}, Seed: seedOf(7), K: 6, Limit: 6}
	want, _ := model.Complete(w, a)
	for first := range 9 {
		for second := range 9 {
			for third := range 9 {
				b := made(t, w, serve.Limits{Queue: 1, Batch: 1, Pages: 4, Size: 2})
				b.submit(a)
				for _, places := range []int{first, second, third} {
					b.do(serve.Admit, 0)
					b.may("+0 P0 ")
					// The last Advance would end it.
					b.advance(0, min(places, 7))
					b.do(serve.Preempt, 0)
					if n, e := b.s.State(0); n != serve.Waiting || e != api.OK || b.s.Places(0) != 0 || b.s.Free() != 4 {
						t.Fatal(n, int(e), b.s.Places(0), b.s.Free())
					}
				}
				b.do(serve.Admit, 0)
				for range 8 {
					b.may("+0 ")
					b.step(first)
				}
				if l, e := b.s.Result(0); !slices.Equal(l, want) || e != api.OK {
					t.Fatalf("%d %d %d: %v %d, not %v", first, second, third, l, int(e), want)
				}
			}
		}
	}
}

// TestBatch has as many run as may.
func TestBatch(t *testing.T) { // P14.2
	for batch := 1; batch <= 16; batch++ {
		b := made(t, counter(4, 8), serve.Limits{Queue: 64, Batch: batch, Pages: 256, Size: 1})
		for range 2*batch + 1 {
			b.submit(count(3, 0, 1))
		}
		hasAdmit := func() bool { return b.s.Acts()[0].Kind == serve.Admit }
		fill := func() {
			t.Helper()
			for len(b.p.of(serve.Running)) < batch {
				if !hasAdmit() {
					t.Fatalf("%d of %d run: %s", len(b.p.of(serve.Running)), batch, b.acts())
				}
				b.step(0)
			}
			if hasAdmit() {
				t.Fatalf("all of %d run: %s", batch, b.acts())
			}
			b.stands()
		}
		fill()
		b.do(serve.Preempt, b.p.of(serve.Running)[batch/2])
		fill()
		b.cancel(b.p.of(serve.Running)[batch/2])
		fill()
		b.advance(b.p.of(serve.Running)[batch-1], 4)
		fill()
		b.drive()
		b.over()
	}
}

// TestPagesOfThoseThatRun has the needs of those that run leave just enough pages, and one too few.
func TestPagesOfThoseThatRun(t *testing.T) { // P14.2
	for _, x := range []struct {
		pages  int
		limits []int // what comes behind a prompt of one: as many places, each a page
		want   string
	}{
		{5, []int{2, 3}, "A1 +0 P0 "}, {5, []int{2, 4}, "+0 P0 "}, {5, []int{1, 4}, "A1 +0 P0 "}, {5, []int{5, 1}, "+0 P0 "}, {5, []int{4, 1}, "A1 +0 P0 "},
		// The least number has to have room: no later one goes ahead of it.
		{5, []int{2, 4, 1}, "+0 P0 "}, {1, []int{1, 1}, "+0 P0 "}, {2, []int{1, 1, 1}, "A1 +0 P0 "},
	} {
		b := made(t, counter(4, 9), serve.Limits{Queue: 9, Batch: 9, Pages: x.pages, Size: 1})
		for _, limit := range x.limits {
			b.submit(count(limit, 3))
		}
		b.do(serve.Admit, 0)
		b.may(x.want)
		b.drive(1)
		b.over()
	}
	// All that run count, how far they are makes no difference, nor that they share pages.
	b := made(t, counter(4, 9), serve.Limits{Queue: 9, Batch: 9, Pages: 10, Size: 2})
	for _, limit := range []int{6, 6, 2, 1, 1, 6} { // they need 4, 4, 2, 2, 2, 4
		b.submit(count(limit, 0, 1, 2))
	}
	b.do(serve.Admit, 0)
	b.advance(0, 3)
	b.do(serve.Admit, 1)
	b.may("A2 +0 +1 P0 P1 ")
	b.do(serve.Admit, 2)
	if b.s.Free() != 8 {
		t.Error(b.s.Free())
	}
	b.may("+0 +1 +2 P0 P1 P2 ")
	b.advance(2, 2)
	b.may("A3 +0 +1 P0 P1 ")
	b.do(serve.Preempt, 1)
	b.may("A1 +0 P0 ")
	b.cancel(0)
	b.do(serve.Admit, 1)
	b.do(serve.Admit, 3)
	b.do(serve.Admit, 4)
	b.may("+1 +3 +4 P1 P3 P4 ")
	b.cancel(3)
	b.may("A5 +1 +4 P1 P4 ")
	b.cancel(1)
	b.may("A5 +4 P4 ")
	b.drive()
	b.over()
}

// TestFirstWaits has the least number be admitted first, also where it was preempted.
func TestFirstWaits(t *testing.T) { // P14.2
	b := made(t, counter(4, 9), serve.Limits{Queue: 9, Batch: 1, Pages: 9, Size: 1})
	for range 4 {
		b.submit(count(1, 0))
	}
	b.cancel(1)
	for _, id := range []int{0, 2, 3} {
		for range 3 {
			b.do(serve.Admit, id)
			b.do(serve.Preempt, id)
			b.may(fmt.Sprint("A", id, " "))
		}
		b.do(serve.Admit, id)
		b.may(fmt.Sprint("+", id, " "))
		b.advance(id, 1)
	}
	b.over()
}

func TestStep(t *testing.T) { // P14.2, R1
	ready := func() both {
		b := made(t, counter(8, 20), serve.Limits{Queue: 9, Batch: 4, Pages: 20, Size: 3})
		for range 4 {
			b.submit(count(4, 1, 2))
		}
		for range 3 {
			b.step(0)
		}
		b.may("A3 +0 +1 +2 P0 P1 P2 ")
		return b
	}
	all := ready().s.Acts()
	for _, x := range []struct{ by, at int }{
		{0, 0}, {1, 1}, {2, 2}, {3, 3}, {4, 4}, {5, 5}, {6, 6}, {7, 0}, {8, 1}, {13, 6}, {14, 0}, {700, 0}, {705, 5},
		{-1, 6}, {-2, 5}, {-6, 1}, {-7, 0}, {-8, 6}, {-14, 0}, {-700, 0}, {-705, 2},
		// 2^63 leaves 1 divided by 7.
		{math.MaxInt, 0}, {math.MaxInt - 1, 6}, {math.MinInt, 6}, {math.MinInt + 1, 0}, {math.MinInt + 2, 1},
	} {
		b := ready()
		if act, e := b.step(x.by); act != all[x.at] || e != api.OK {
			t.Errorf("by %d: %v %d, not %v", x.by, act, int(e), all[x.at])
		}
		b.stands()
	}
	b := made(t, counter(2, 4), serve.Limits{Queue: 1, Batch: 1, Pages: 3, Size: 1})
	nothing := func() {
		t.Helper()
		for _, by := range append(noneOf(0), 0, 1, 2) {
			if act, e := b.step(by); act != (serve.Act{}) || e != api.ErrNone {
				t.Errorf("by %d: %v %d", by, act, int(e))
			}
		}
		b.stands()
	}
	nothing()
	for i, by := range append(noneOf(1), 0) {
		b.submit(count(3, 0))
		if act, e := b.step(by); act != (serve.Act{Kind: serve.Admit, ID: i}) || e != api.OK {
			t.Errorf("by %d: %v %d", by, act, int(e))
		}
		if i%2 == 0 {
			b.cancel(i)
		} else {
			b.drive()
		}
		nothing()
	}
}

// TestDrive tells by hand how many acts there are.
func TestDrive(t *testing.T) { // P14.2, P14.4, R1
	for _, x := range []struct {
		picks []int
		many  int
	}{
		// Two are admitted, and each one is advanced 5 times.
		{nil, 12}, {[]int{}, 12}, {[]int{0}, 12}, {[]int{0, 0, 0}, 12},
		// The last act preempts: three times the one, then three times the other one, each being admitted once more.
		{[]int{-1}, 24}, {[]int{0, -1}, 24},
		// The first one goes its way ahead of the second one, of which alone the act at place 1 preempts.
		{[]int{1}, 18}, {[]int{1, 1}, 18},
		// One place of the second one is lost three times; or four of them once; or none.
		{[]int{math.MaxInt, 1 << 40, -5}, 21}, {[]int{0, 1}, 22}, {[]int{math.MinInt}, 12},
	} {
		b := made(t, counter(8, 20), serve.Limits{Queue: 9, Batch: 4, Pages: 20, Size: 3})
		b.submit(count(3, 1, 2, 3))
		b.submit(count(4, 5, 6))
		if n := b.drive(x.picks...); n != x.many {
			t.Errorf("%v: %d, not %d", x.picks, n, x.many)
		}
		b.over()
		for range 2 {
			if n, e := b.s.Drive(x.picks...); n != 0 || e != api.OK {
				t.Errorf("%v: %d %d", x.picks, n, int(e))
			}
		}
		b.over()
	}
}

// TestDriveBeginsAnew has picks begin with the first one at each call, whatever was done by others.
func TestDriveBeginsAnew(t *testing.T) { // P14.2
	b := made(t, counter(8, 20), serve.Limits{Queue: 9, Batch: 4, Pages: 20, Size: 3})
	picks := []int{0, 0, -1, 3, 1}
	for i := range 20 {
		b.submit(count(1+i%4, 1, 2))
		b.submit(count(2, i%8))
		if i%3 == 0 {
			b.step(0)
		}
		b.drive(picks...)
		b.over()
	}
	if !slices.Equal(picks, []int{0, 0, -1, 3, 1}) {
		t.Error(picks)
	}
}
