package serve_test

import (
	"slices"
	"testing"

	"cupel/api"
	"cupel/model"
	"cupel/serve"
)

// has a request's row have so many places, and so many pages be free.
func (b both) has(id, places, free int) {
	b.Helper()
	if n := b.s.Places(id); n != places || b.s.Free() != free {
		b.Errorf("%d places of %d, and %d pages free, not %d and %d", n, id, b.s.Free(), places, free)
	}
	b.stands()
}

// run has requests for so many tokens behind prompts be admitted, each advanced up to so many places ahead of the next one.
func (b both) run(limit int, places int, prompts ...[]int) {
	b.Helper()
	for _, prompt := range prompts {
		id, e := b.submit(count(limit, prompt...))
		if e != api.OK {
			b.Fatal(int(e))
		}
		b.do(serve.Admit, id)
		b.advance(id, max(places-b.s.Places(id), 0))
	}
}

// TestExample is the chapter's one: two requests of one prompt.
func TestExample(t *testing.T) { // P14.2, P14.4
	w := modelOf(middle, 51, one)
	b := made(t, w, serve.Limits{Queue: 2, Batch: 2, Pages: 8, Size: 2})
	a := model.Ask{Prompt: []int{0, 1, 2}, Seed: seedOf(3), K: 6, Limit: 5}
	b.submit(a)
	b.do(serve.Admit, 0)
	b.advance(0, 2)
	b.has(0, 2, 7)
	a.Seed = seedOf(4)
	b.submit(a)
	b.do(serve.Admit, 1)
	b.has(1, 2, 7)
	b.advance(1, 1)
	b.has(1, 3, 6)
	b.advance(0, 1)
	b.has(0, 3, 5)
	b.drive()
	b.over()
}

// TestHowFarARowAgrees has one row there, and another one that begins with it as far as it can.
func TestHowFarARowAgrees(t *testing.T) { // P14.2
	for _, x := range []struct {
		what   string
		places int // of the row that is there, of the prompt 1 2 3 4, behind which 5 6 7 0 come
		prompt []int
		shared int
	}{
		{"the same prompt, but for its last token", 4, []int{1, 2, 3, 4}, 3},
		{"as far as the row goes", 2, []int{1, 2, 3, 4}, 2},
		{"as far as the row goes, and no further than it is", 3, []int{1, 2, 3, 4}, 3},
		{"a row without places", 0, []int{1, 2, 3, 4}, 0},
		{"a row of one place", 1, []int{1, 2, 3, 4}, 1},
		{"a longer prompt", 4, []int{1, 2, 3, 4, 0}, 4},
		{"a longer prompt, with tokens that came", 6, []int{1, 2, 3, 4, 5, 6, 7}, 6},
		{"a longer prompt, with tokens that came, behind which there is no place yet", 4, []int{1, 2, 3, 4, 5, 6, 7}, 4},
		{"all that came", 7, []int{1, 2, 3, 4, 5, 6, 7, 0}, 7},
		{"all that came, but for the last token", 7, []int{1, 2, 3, 4, 5, 6, 7}, 6},
		{"other tokens than those that came", 6, []int{1, 2, 3, 4, 6, 6, 7}, 4},
		{"a shorter prompt", 6, []int{1, 2}, 1},
		{"a prompt of one token", 6, []int{1}, 0},
		{"another first token", 6, []int{0, 2, 3, 4, 5}, 0},
		{"another second token", 6, []int{1, 1, 3, 4, 5}, 1},
		{"another token that is the last one", 6, []int{1, 2, 3, 3}, 3},
		{"the same tokens further behind", 6, []int{0, 1, 2, 3}, 0},
		{"another token, and the same ones behind it", 6, []int{1, 2, 7, 4, 5}, 2},
	} {
		for _, size := range []int{1, 2, 3, 4, 20} {
			b := made(t, counter(8, 20), serve.Limits{Queue: 2, Batch: 2, Pages: 40, Size: size})
			b.run(8, x.places, []int{1, 2, 3, 4})
			free := b.s.Free()
			b.run(4, 0, x.prompt)
			if b.s.Places(1) != x.shared || b.s.Free() != free || b.s.Places(0) != x.places {
				t.Errorf("%s, pages of %d: %d places, not %d", x.what, size, b.s.Places(1), x.shared)
			}
			b.stands()
			b.drive(1)
			b.over()
		}
	}
}

// TestFurthestRow has several rows there, of which one goes the furthest with another one.
func TestFurthestRow(t *testing.T) { // P14.2
	b := made(t, counter(8, 20), serve.Limits{Queue: 9, Batch: 9, Pages: 99, Size: 1})
	b.run(6, 4, []int{1, 7, 7, 7}, []int{1, 2, 6, 6}, []int{1, 2, 3, 5}, []int{0, 2, 3, 4})
	b.run(3, 0, []int{1, 2, 3, 4, 5})
	b.has(4, 3, 99-13)
	b.run(3, 0, []int{1, 2, 6, 6, 7, 0})
	b.has(5, 4, 99-13)
	b.run(3, 0, []int{1, 7})
	b.has(6, 1, 99-13)
	b.run(3, 0, []int{0, 3, 3, 4})
	b.has(7, 1, 99-13)
	b.drive()
	b.over()
}

// TestLeastOfTheFurthest has several rows go as far, each in pages of its own: which one is shared is seen when they are gone.
func TestLeastOfTheFurthest(t *testing.T) { // P14.2
	const pages = 64
	for _, x := range []struct {
		what   string
		places [4]int // of rows of one prompt; each is in pages of its own, because all are admitted ahead of any place
		shared int
		of     int
	}{
		{"all go as far", [4]int{3, 3, 3, 3}, 3, 0},
		{"the later ones go further", [4]int{1, 3, 3, 2}, 3, 1},
		{"the last ones go further", [4]int{1, 2, 3, 3}, 3, 2},
		{"the last one goes furthest", [4]int{1, 2, 2, 3}, 3, 3},
		{"some go further than what is asked for", [4]int{3, 4, 6, 5}, 3, 0},
		{"the least one has not enough", [4]int{2, 4, 6, 3}, 3, 1},
		{"one alone has a place", [4]int{0, 0, 1, 0}, 1, 2},
	} {
		for gone := range 4 {
			b := made(t, counter(8, 20), serve.Limits{Queue: 9, Batch: 9, Pages: pages, Size: 1})
			prompt := []int{1, 2, 3, 4}
			b.run(6, 0, prompt, prompt, prompt, prompt)
			for id, times := range x.places {
				b.advance(id, times)
			}
			b.run(3, 0, prompt)
			held := x.places[0] + x.places[1] + x.places[2] + x.places[3]
			b.has(4, x.shared, pages-held)
			b.cancel(gone)
			if gone == x.of {
				b.has(4, x.shared, pages-held+x.places[gone]-x.shared)
			} else {
				b.has(4, x.shared, pages-held+x.places[gone])
			}
			b.drive()
			b.over()
		}
	}
}

// TestOnlyThoseThatRunShare has rows that are gone.
func TestOnlyThoseThatRunShare(t *testing.T) { // P14.2
	for what, leave := range map[string]func(b both){
		"preempted": func(b both) { b.do(serve.Preempt, 0); b.cancel(0) },
		"cancelled": func(b both) { b.cancel(0) },
		"ended":     func(b both) { b.advance(0, 2) },
	} {
		b := made(t, counter(8, 20), serve.Limits{Queue: 9, Batch: 9, Pages: 20, Size: 2})
		b.run(3, 3, []int{1, 2, 3})
		leave(b)
		b.run(3, 0, []int{1, 2, 3})
		if b.s.Places(1) != 0 || b.s.Free() != 20 {
			t.Errorf("%s: %d places", what, b.s.Places(1))
		}
		b.drive()
		b.over()
	}
	// One that was preempted and still waits has tokens, but no row.
	b := made(t, counter(8, 20), serve.Limits{Queue: 9, Batch: 2, Pages: 20, Size: 2})
	b.run(3, 3, []int{1, 2, 3})
	b.run(3, 2, []int{0, 2, 3})
	b.submit(count(3, 1, 2, 3))
	b.do(serve.Preempt, 0)
	b.do(serve.Admit, 0)
	b.has(0, 0, 19)
	b.advance(0, 1)
	b.do(serve.Preempt, 1)
	b.do(serve.Admit, 1)
	b.has(1, 0, 19)
	b.cancel(1)
	b.do(serve.Admit, 2)
	b.has(2, 1, 19)
	b.drive()
	b.over()
}

// TestWhatCameIsShared has one that was preempted share places of tokens that came, its own and another one's.
func TestWhatCameIsShared(t *testing.T) { // P14.2, P14.4
	b := made(t, counter(8, 20), serve.Limits{Queue: 9, Batch: 9, Pages: 20, Size: 2})
	b.run(8, 6, []int{1, 2, 3}) // 1 2 3 4 5 6 7, of which the last one has no place
	b.run(6, 5, []int{1, 2, 3, 4, 5})
	b.has(1, 5, 20-3-1)
	b.do(serve.Preempt, 0)
	b.has(0, 0, 20-3)
	b.do(serve.Admit, 0) // its tokens are 1 2 3 4 5 6 7 still
	b.has(0, 5, 20-3)
	b.advance(1, 4)
	b.has(1, 9, 20-5-1)
	b.do(serve.Preempt, 0)
	b.do(serve.Admit, 0)
	b.has(0, 6, 20-5) // but for the last one of its own, though the row of the other one has it
	b.advance(0, 1)
	b.has(0, 7, 20-5-1)
	b.advance(0, 1)
	b.has(0, 8, 20-5-1)
	b.drive()
	b.over()
	if l, e := b.s.Result(0); !slices.Equal(l, []int{4, 5, 6, 7, 0, 1, 2, 3}) || e != api.OK {
		t.Error(l, int(e))
	}
}

// TestSharersGoTheirOwnWay has many share one row in turns, and each go on with tokens of its own.
func TestSharersGoTheirOwnWay(t *testing.T) { // P14.4
	w := modelOf(middle, 52, 2*one)
	for size := 1; size < 9; size++ {
		b := made(t, w, serve.Limits{Queue: 16, Batch: 16, Pages: 256, Size: size})
		for i := range 16 {
			id, _ := b.submit(model.Ask{Prompt: []int{5, 1, 5, 2, 4, i % 6}, Seed: seedOf(byte(i)), K: 6, Limit: 8})
			b.do(serve.Admit, id)
			b.advance(id, i%9)
			b.stands()
		}
		for i := range 13 * 16 {
			if id := i % 16; b.p.requests[id].state == serve.Running {
				b.do(serve.Advance, id)
			}
		}
		b.over()
	}
}

// TestTightPages has rows that share pages, and part, have all pages be taken: there is always one for the next place.
func TestTightPages(t *testing.T) { // P14.2, P14.4
	w := modelOf(middle, 53, one)
	c := newChance(6)
	for size := 1; size < 7; size++ {
		most := (17 + size - 1) / size // what one of them needs
		for range 6 {
			b := made(t, w, serve.Limits{Queue: 16, Batch: 16, Pages: most + c.IntN(2*most), Size: size})
			for range 16 {
				a := anyAsk(c, middle)
				a.Prompt = append([]int{0, 0, 0}, a.Prompt...)
				b.submit(a)
			}
			for len(b.s.Acts()) > 0 {
				b.step([]int{0, 0, 1, 2, 3, -1}[c.IntN(6)])
				b.stands()
			}
			b.over()
		}
	}
}
