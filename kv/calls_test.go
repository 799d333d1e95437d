package kv_test

import (
	"crypto/sha256"
	"encoding/hex"
	"fmt"
	"math/rand/v2"
	"slices"
	"strings"
	"testing"

	"cupel/api"
	"cupel/kv"
)

// turns is how often each kind of call comes: in 100 calls, Open, Share, Close, one that is wrong, and else Append.
type turns struct{ open, share, shut, wrong int }

// call asks a call drawn at random, of things that come one behind the other.
func call[T any](b both[T], c *rand.Rand, x turns, next func() T) {
	b.Helper()
	l := b.w.open()
	kind := c.IntN(100)
	switch {
	case len(l) == 0, kind < x.open:
		b.open()
	case kind < x.open+x.share:
		of := l[c.IntN(len(l))]
		b.share(of, c.IntN(len(b.w.rows[of].l)+1))
	case kind < x.open+x.share+x.shut:
		b.shut(l[c.IntN(len(l))])
	case kind < x.open+x.share+x.shut+x.wrong:
		wrong(b, c, l, next())
	default:
		b.alone(l[c.IntN(len(l))], next())
	}
}

// wrong asks a call that has an error, of a pool of which these rows are open.
func wrong[T any](b both[T], c *rand.Rand, l []int, x T) {
	b.Helper()
	any := func(l []int) int { return l[c.IntN(len(l))] }
	id := any(noneOf(len(b.w.rows)))
	e := api.ErrNone
	switch of := any(l); c.IntN(4) {
	case 0:
		_, e = b.share(of, any(noneOf(len(b.w.rows[of].l)+1)))
		b.needs(e, api.ErrRange)
	case 1:
		_, e = b.share(id, c.IntN(4))
		b.needs(e, api.ErrNone)
	case 2:
		b.needs(b.add(id, x), api.ErrNone)
	case 3:
		b.needs(b.shut(id), api.ErrNone)
	}
}

// alone has what is appended to a row turn no other one, by what the pool itself has told of these.
func (b both[T]) alone(id int, x T) {
	b.Helper()
	tell := func(id int) string { return fmt.Sprint(slices.Collect(b.p.All(id)), b.p.Pages(id)) }
	l := b.w.open()
	before := make([]string, len(l))
	for i, other := range l {
		before[i] = tell(other)
	}
	free := b.p.Free()
	e := b.add(id, x)
	for i, other := range l {
		if (other != id || e != api.OK) && tell(other) != before[i] {
			b.Fatalf("Append to %d: %d is turned: %s, not %s", id, other, tell(other), before[i])
		}
	}
	if e != api.OK && (free > 0 || b.p.Free() > 0) {
		b.Fatalf("Append to %d: %d, where %d pages were free", id, int(e), free)
	}
}

// together has the counts of all pages be the pages that the open rows hold.
func (b both[T]) together() {
	b.Helper()
	counts, held, free := 0, 0, 0
	for page := range b.w.pages {
		counts += b.p.Count(page)
		if b.p.Count(page) == 0 {
			free++
		}
	}
	for _, id := range b.w.open() {
		pages := b.p.Pages(id)
		held += len(pages)
		if n, _ := b.p.Len(id); len(pages) != (n+b.w.size-1)/b.w.size {
			b.Fatalf("%d has %d things in %d pages", id, n, len(pages))
		}
	}
	if counts != held || b.p.Free() != free {
		b.Fatalf("counts of %d, rows of %d pages; %d are free, not %d", counts, held, b.p.Free(), free)
	}
}

// TestAnyCalls holds pools of many sizes, over long rows of calls, against plain ones.
func TestAnyCalls(t *testing.T) { // P13.1, P13.2, P13.3, P13.4
	c := newChance(1)
	for _, x := range []struct {
		pages, size, many int
		turns
	}{
		{1, 1, 300, turns{6, 10, 14, 6}}, {1, 64, 600, turns{3, 8, 10, 5}}, {2, 2, 600, turns{4, 14, 16, 6}}, {3, 1, 600, turns{4, 10, 12, 6}},
		{4, 3, 900, turns{3, 14, 15, 6}}, {8, 4, 1500, turns{2, 12, 13, 5}}, {16, 2, 1500, turns{2, 12, 13, 4}}, {40, 5, 1500, turns{1, 8, 8, 3}},
		{256, 1, 700, turns{3, 8, 9, 4}}, {256, 64, 700, turns{1, 3, 2, 3}}, {5, 64, 1500, turns{1, 6, 6, 4}}, {6, 7, 3000, turns{0, 20, 20, 20}},
	} {
		b := made[int](t, x.pages, x.size)
		n := 0
		next := func() int { n++; return n }
		var photos []photo[int]
		for i := range x.many {
			call(b, c, x.turns, next)
			b.together()
			if i%7 == 0 || i > x.many-20 {
				b.stands()
			}
			if i%(x.many/12) == 0 {
				for _, id := range b.w.open() {
					photos = append(photos, b.photoOf(id))
				}
			}
		}
		for _, p := range photos {
			b.shows(p)
		}
		b.closeAll(c)
	}
}

// closeAll closes all rows, in any order, and has all pages be free then.
func (b both[T]) closeAll(c *rand.Rand) {
	b.Helper()
	l := b.w.open()
	c.Shuffle(len(l), func(i, j int) { l[i], l[j] = l[j], l[i] })
	for _, id := range l {
		b.needs(b.shut(id), api.OK)
		b.together()
	}
	b.stands()
	b.empty()
}

// TestAnyCallsOfTypes is likewise of things that are no numbers.
func TestAnyCallsOfTypes(t *testing.T) { // P13.1, P13.2, P13.3, P13.4
	c := newChance(2)
	n := 0
	next := func() int { n++; return n }
	usual := turns{2, 12, 12, 5}
	texts := made[string](t, 7, 4)
	slicesOf := madeOf(t, 7, 4, slices.Equal[[]int])
	structs := made[struct {
		a string
		b [2]int
	}](t, 7, 4)
	for range 600 {
		call(texts, c, usual, func() string { return strings.Repeat("x", next()%30) })
		call(slicesOf, c, usual, func() []int { return rising(next(), n%4) })
		call(structs, c, usual, func() struct {
			a string
			b [2]int
		} {
			return struct {
				a string
				b [2]int
			}{fmt.Sprint(next()), [2]int{n, -n}}
		})
		if n%5 == 0 {
			texts.stands()
			slicesOf.stands()
			structs.stands()
		}
	}
	texts.closeAll(c)
	slicesOf.closeAll(c)
	structs.closeAll(c)
}

// TestErrorsLeaveNoTrace has two pools be asked the same, one of them also what it can't answer.
func TestErrorsLeaveNoTrace(t *testing.T) { // P13.1, P13.2, R1, R3
	c := newChance(3)
	a, b := made[int](t, 5, 3), made[int](t, 5, 3)
	seed := uint64(99)
	forA, forB := newChance(seed), newChance(seed)
	n := 0
	for i := range 800 {
		next := func() int { n++; return i }
		call(a, forA, turns{2, 12, 12, 0}, next)
		call(b, forB, turns{2, 12, 12, 0}, next)
		for range 3 {
			if l := b.w.open(); len(l) > 0 {
				wrong(b, c, l, -1)
			}
		}
		for id := range a.w.rows {
			if !slices.Equal(slices.Collect(a.p.All(id)), slices.Collect(b.p.All(id))) || !slices.Equal(a.p.Pages(id), b.p.Pages(id)) {
				t.Fatal(i, id)
			}
		}
	}
	b.stands()
}

// TestPoolsGoEachForItself has many pools be asked in turns.
func TestPoolsGoEachForItself(t *testing.T) { // R3
	c := newChance(4)
	var all []both[int]
	for i := range 10 {
		all = append(all, made[int](t, 1+i, 1+i%3))
	}
	n := 0
	for range 200 {
		for _, b := range all {
			call(b, c, turns{2, 12, 12, 5}, func() int { n++; return n })
		}
	}
	for _, b := range all {
		b.stands()
	}
}

// lot is numbers by a rule that any program can follow.
type lot uint64

func (l *lot) draw(many int) int {
	*l = *l*6364136223846793005 + 1442695040888963407
	return int(*l>>33) % many
}

// history is what a pool has answered to calls that a lot tells, as one text.
func history(p *kv.Pool[int], seed lot, many int) string {
	var told strings.Builder
	line := func(l ...int) {
		for _, n := range l {
			fmt.Fprint(&told, n, " ")
		}
		fmt.Fprintln(&told)
	}
	opened := 0
	tell := func(id int, e api.Errno) {
		line(id, int(e))
		if e == api.OK {
			opened++
		}
	}
	for turn := range many {
		id, kind := seed.draw(opened+1), seed.draw(20)
		switch {
		case kind == 0:
			tell(p.Open())
		case kind < 3:
			n, _ := p.Len(id)
			tell(p.Share(id, seed.draw(n+2)))
		case kind < 6:
			line(int(p.Close(id)))
		default:
			line(int(p.Append(id, turn)))
		}
		n, e := p.Len(id)
		line(n, int(e))
		line(p.Pages(id)...)
		line(slices.Collect(p.All(id))...)
		i := seed.draw(n + 1)
		x, e := p.Get(id, i)
		line(x, int(e), p.Count(seed.draw(10)), p.Free())
	}
	return told.String()
}

// TestHistoryTold has the beginnings of digests of what another program has worked out.
func TestHistoryTold(t *testing.T) { // P13.1, P13.2, P13.3
	for _, x := range []struct {
		pages, size int
		seed        lot
		many        int
		want        string
	}{
		{1, 1, 1, 200, "60edd9e7b02490ad"},
		{2, 2, 2, 400, "6f45f9748ee2632f"},
		{3, 4, 3, 600, "ee862c50ebca8047"},
		{8, 3, 4, 1500, "ac42081da58994bd"},
		{16, 64, 5, 1500, "cfc0d997a4adce22"},
		{100, 2, 6, 2000, "b9c677d6d2601e68"},
		{256, 1, 7, 1500, "fe100e8c03eb7f76"},
		{256, 64, 8, 2000, "d592cf2c2e9f4648"},
		{40, 3, 9, 9000, "bb81c6553d64ab6c"},
	} {
		p, _ := kv.New[int](x.pages, x.size)
		told := history(p, x.seed, x.many)
		d := sha256.Sum256([]byte(told))
		if got := hex.EncodeToString(d[:8]); got != x.want {
			t.Errorf("%d pages of %d: %s, not %s", x.pages, x.size, got, x.want)
		}
		// The same once more: no order of a map is to be seen.
		p, _ = kv.New[int](x.pages, x.size)
		if again := history(p, x.seed, x.many); again != told {
			t.Errorf("%d pages of %d: another answer each time", x.pages, x.size)
		}
	}
}

// FuzzCalls has each byte be a call.
func FuzzCalls(f *testing.F) { // P13.1, P13.2, P13.3, P13.4, R1
	f.Add(2, 2, []byte{0, 3, 3, 3, 1, 3, 2, 3})
	f.Add(1, 1, []byte{0, 0, 3, 7, 11, 2, 6})
	f.Add(3, 4, []byte{0, 3, 3, 3, 3, 3, 1, 5, 7, 15, 2, 7, 7, 3})
	f.Add(0, 1, []byte{0})
	f.Add(257, 64, []byte{0})
	f.Add(256, 65, []byte{0})
	f.Fuzz(func(t *testing.T, pages, size int, calls []byte) {
		p, e := kv.New[int](pages, size)
		if pages < 1 || pages > 256 || size < 1 || size > 64 {
			if p != nil || e != api.ErrSize {
				t.Fatal(pages, size, int(e))
			}
			return
		}
		b := made[int](t, pages, size)
		for i, x := range calls[:min(len(calls), 300)] {
			id := int(x>>2) % (len(b.w.rows) + 1)
			switch x & 3 {
			case 0:
				b.open()
			case 1:
				n, _ := b.p.Len(id)
				b.share(id, n-int(x>>5))
			case 2:
				b.shut(id)
			case 3:
				for n := range int(x>>6) + 1 {
					b.add(id, i+1000*n)
				}
			}
			b.together()
		}
		b.stands()
		b.closeAll(newChance(5))
	})
}
