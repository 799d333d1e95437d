package serve_test

import (
	"slices"
	"testing"

	"cupel/api"
	"cupel/model"
	"cupel/serve"
)

// TestAdvance goes one place after the other, up to the last token.
func TestAdvance(t *testing.T) { // P14.2, P14.3
	b := made(t, counter(8, 20), serve.Limits{Queue: 1, Batch: 1, Pages: 5, Size: 2})
	b.submit(count(3, 4, 5, 6))
	for range 2 {
		if l, e := b.s.Result(0); len(l) != 0 || e != api.ErrState {
			t.Error(l, int(e))
		}
		b.stands()
	}
	b.do(serve.Admit, 0)
	for places := range 5 {
		if n, e := b.s.State(0); n != serve.Running || e != api.OK || b.s.Places(0) != places || b.s.Free() != 5-(places+1)/2 {
			t.Error(places, n, int(e), b.s.Places(0), b.s.Free())
		}
		if l, e := b.s.Result(0); len(l) != 0 || e != api.ErrState {
			t.Error(l, int(e))
		}
		b.stands()
		b.advance(0, 1)
	}
	if n, e := b.s.State(0); n != serve.Ended || e != api.OK || b.s.Places(0) != 0 || b.s.Free() != 5 {
		t.Error(n, int(e), b.s.Places(0), b.s.Free())
	}
	if l, e := b.s.Result(0); !slices.Equal(l, []int{7, 0, 1}) || e != api.OK {
		t.Error(l, int(e))
	}
	b.over()
}

// TestEnds has requests end by their Limit, and by one of Stop.
func TestEnds(t *testing.T) { // P14.2, P14.4
	for _, x := range []struct {
		limit        int
		prompt, stop []int
		want         []int
		places       int // which go through the model
	}{
		{1, []int{3}, nil, []int{4}, 1}, {1, []int{3, 1, 7}, nil, []int{0}, 3}, {2, []int{3}, nil, []int{4, 5}, 2}, {9, []int{6}, nil, []int{7, 0, 1, 2, 3, 4, 5, 6, 7}, 9},
		{9, []int{6}, []int{7}, []int{7}, 1}, {9, []int{6}, []int{6}, []int{7, 0, 1, 2, 3, 4, 5, 6}, 8}, {9, []int{6}, []int{2}, []int{7, 0, 1, 2}, 4}, {9, []int{6}, []int{4, 2, 3}, []int{7, 0, 1, 2}, 4}, {9, []int{6}, []int{2, 2}, []int{7, 0, 1, 2}, 4},
		// By both at once.
		{4, []int{6}, []int{2}, []int{7, 0, 1, 2}, 4}, {1, []int{6}, []int{7}, []int{7}, 1}, {3, []int{6}, []int{2}, []int{7, 0, 1}, 3},
		// Those of the prompt stop nothing, nor does what is no token.
		{3, []int{1, 2, 3}, []int{1, 2, 3}, []int{4, 5, 6}, 5}, {2, []int{1}, []int{-1, 8, 1 << 40, -1 << 63}, []int{2, 3}, 2}, {2, []int{1}, []int{}, []int{2, 3}, 2},
	} {
		b := made(t, counter(8, 20), serve.Limits{Queue: 9, Batch: 1, Pages: 20, Size: 1})
		a := count(x.limit, x.prompt...)
		a.Stop = x.stop
		b.submit(a)
		b.do(serve.Admit, 0)
		b.advance(0, x.places-1)
		if n, _ := b.s.State(0); n != serve.Running || b.s.Places(0) != x.places-1 {
			t.Errorf("%v: %d, %d places", a, n, b.s.Places(0))
		}
		b.advance(0, 1)
		if l, e := b.s.Result(0); !slices.Equal(l, x.want) || e != api.OK {
			t.Errorf("%v: %v %d, not %v", a, l, int(e), x.want)
		}
		b.over()
	}
}

// TestEndsWithAnError has a token that can't go through the model, in a prompt, and of those that come.
func TestEndsWithAnError(t *testing.T) { // P14.2, P14.4
	w := spoiled(counter(8, 20)) // token 7 can't
	for _, x := range []struct {
		limit  int
		prompt []int
		stop   []int
		places int // which go through the model, the one with the error, too; 0 where there is none
	}{
		{3, []int{7}, nil, 1}, {1, []int{7, 1}, nil, 1}, {1, []int{1, 7}, nil, 2}, {4, []int{1, 2, 7, 3}, nil, 3}, {3, []int{5}, nil, 3}, {9, []int{1, 2}, nil, 7}, {3, []int{6}, []int{0}, 2},
		// The last token does not go through it.
		{2, []int{5}, nil, 0}, {1, []int{6}, nil, 0}, {9, []int{4}, []int{7}, 0}, {6, []int{0, 1}, nil, 0},
	} {
		b := made(t, w, serve.Limits{Queue: 9, Batch: 2, Pages: 40, Size: 3})
		a := count(x.limit, x.prompt...)
		a.Stop = x.stop
		b.submit(a)
		b.submit(a)
		if x.places == 0 {
			b.drive()
			b.over()
			if l, e := b.s.Result(1); len(l) == 0 || e != api.OK {
				t.Errorf("%v: %v %d", a, l, int(e))
			}
			continue
		}
		for id := range 2 {
			b.do(serve.Admit, id)
			b.advance(id, x.places-1)
			if n, _ := b.s.State(id); n != serve.Running {
				t.Errorf("%v: %d", a, n)
			}
			b.do(serve.Preempt, id)
			b.do(serve.Admit, id)
			b.advance(id, x.places)
			if n, e := b.s.State(id); n != serve.Ended || e != api.OK || b.s.Places(id) != 0 || b.s.Free() != 40 {
				t.Errorf("%v: %d %d, %d places", a, n, int(e), b.s.Places(id))
			}
			if l, e := b.s.Result(id); len(l) != 0 || e != api.ErrOver {
				t.Errorf("%v: %v %d", a, l, int(e))
			}
			if e := b.cancel(id); e != api.ErrState {
				t.Errorf("%v: %d", a, int(e))
			}
			b.stands()
		}
		b.over()
	}
}

// TestErrorsBesideOthers has one end with an error, whose places others share.
func TestErrorsBesideOthers(t *testing.T) { // P14.4
	b := made(t, spoiled(counter(8, 20)), serve.Limits{Queue: 9, Batch: 9, Pages: 40, Size: 2})
	b.run(4, 3, []int{1, 2, 3, 7})
	b.run(3, 0, []int{1, 2, 3, 4})
	b.has(1, 3, 38)
	b.advance(0, 1)
	if l, e := b.s.Result(0); len(l) != 0 || e != api.ErrOver {
		t.Error(l, int(e))
	}
	b.has(1, 3, 38)
	b.run(4, 0, []int{1, 2, 3, 7})
	b.has(2, 3, 38)
	b.drive()
	b.over()
	if l, e := b.s.Result(1); !slices.Equal(l, []int{5, 6, 7}) || e != api.OK {
		t.Error(l, int(e))
	}
	if l, e := b.s.Result(2); len(l) != 0 || e != api.ErrOver {
		t.Error(l, int(e))
	}
}

// TestToTheLastPlace has all places of a model be taken.
func TestToTheLastPlace(t *testing.T) { // P14.2, P14.4
	w := modelOf(long, 61, one)
	for _, l := range []serve.Limits{{9, 1, 1, 63}, {9, 2, 63, 1}, {9, 9, 64, 2}} {
		b := made(t, w, l)
		b.submit(model.Ask{Prompt: []int{2}, Seed: seedOf(1), K: 3, Limit: 63})
		b.submit(model.Ask{Prompt: slices.Repeat([]int{2, 0, 1}, 21), Seed: seedOf(2), K: 2, Limit: 1})
		b.submit(model.Ask{Prompt: slices.Repeat([]int{2, 0}, 16), Seed: seedOf(3), K: 1, Limit: 32})
		b.do(serve.Admit, 0)
		b.advance(0, 62)
		if b.s.Places(0) != 62 {
			t.Error(b.s.Places(0))
		}
		b.drive(1, 0, -1)
		b.over()
	}
}

// TestDraws has each request draw out of its own stream, whatever is drawn beside it, and go on with it where it is preempted.
func TestDraws(t *testing.T) { // P14.2, P14.4
	w := modelOf(middle, 62, one)
	b := made(t, w, serve.Limits{Queue: 16, Batch: 16, Pages: 256, Size: 2})
	all := map[string]bool{}
	for i := range 16 {
		b.submit(model.Ask{Prompt: []int{3, 1}, Seed: seedOf(byte(i / 2)), K: 6, Limit: 12})
	}
	c := newChance(7)
	for len(b.s.Acts()) > 0 {
		b.step(c.IntN(100))
	}
	b.over()
	for i := range 16 {
		l, e := b.s.Result(i)
		same, _ := b.s.Result(i ^ 1)
		if e != api.OK || !slices.Equal(l, same) || len(l) != 12 {
			t.Errorf("%d: %v %d, not %v", i, l, int(e), same)
		}
		all[string(textOf(l))] = true
	}
	if len(all) != 8 {
		t.Errorf("%d kinds of tokens", len(all))
	}
}

// textOf is tokens as digits.
func textOf(l []int) []byte {
	var text []byte
	for _, n := range l {
		text = append(text, byte('0'+n))
	}
	return text
}
