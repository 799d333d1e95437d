package kv_test

import (
	"slices"
	"testing"

	"cupel/api"
)

// holds holds a row to its things and its pages, which stand in the test itself.
func (b both[T]) holds(id int, things []T, pages ...int) {
	b.Helper()
	if l := slices.Collect(b.p.All(id)); !slices.EqualFunc(l, things, b.same) {
		b.Errorf("All of %d: %v, not %v", id, l, things)
	}
	if n, e := b.p.Len(id); n != len(things) || e != api.OK {
		b.Errorf("Len of %d: %d %d, not %d", id, n, int(e), len(things))
	}
	if l := b.p.Pages(id); !slices.Equal(l, pages) {
		b.Errorf("Pages of %d: %d, not %d", id, l, pages)
	}
	b.stands()
}

// counted holds all pages to their counts.
func (b both[T]) counted(counts ...int) {
	b.Helper()
	for page, want := range counts {
		if n := b.p.Count(page); n != want {
			b.Errorf("Count of %d: %d, not %d", page, n, want)
		}
	}
}

// needs has the answer of a call be this one.
func (b both[T]) needs(e, want api.Errno) {
	b.Helper()
	if e != want {
		b.Errorf("%d, not %d", int(e), int(want))
	}
}

// TestAppendFillsPages has a row take all pages there are, thing by thing, and one thing more.
func TestAppendFillsPages(t *testing.T) { // P13.2, P13.3
	for _, pages := range []int{1, 2, 3, 7, 255, 256} {
		for _, size := range []int{1, 2, 3, 5, 63, 64} {
			b := made[int](t, pages, size)
			b.open()
			b.open()
			for i := range pages * size {
				b.needs(b.add(0, 1000+i), api.OK)
				held := i/size + 1
				if b.p.Free() != pages-held || b.p.Count(held-1) != 1 || b.p.Count(held) != 0 || len(b.p.Pages(0)) != held {
					t.Fatalf("%d pages of %d: %d things, %d are free", pages, size, i+1, b.p.Free())
				}
			}
			for range 3 {
				b.needs(b.add(0, 7), api.ErrFull)
				b.needs(b.add(1, 7), api.ErrFull)
			}
			b.holds(0, rising(1000, pages*size), rising(0, pages)...)
			b.holds(1, nil)
			b.needs(b.shut(0), api.OK)
			b.needs(b.add(1, 7), api.OK)
			b.holds(1, []int{7}, 0)
		}
	}
}

// TestRoomOfAPage has the last thing that a page has room for, and the one behind it.
func TestRoomOfAPage(t *testing.T) { // P13.2
	for _, size := range []int{1, 2, 3, 64} {
		b := made[int](t, 3, size)
		b.open()
		b.add(0, rising(1, size-1)...)
		free := 3 - len(b.p.Pages(0))
		b.add(0, size)
		if size > 1 && b.p.Free() != free || b.p.Free() != 2 {
			t.Errorf("size %d: %d are free", size, b.p.Free())
		}
		b.holds(0, rising(1, size), 0)
		b.add(0, size+1)
		b.holds(0, rising(1, size+1), 0, 1)
		b.counted(1, 1, 0)
	}
}

// TestShare shares each number of things of a row.
func TestShare(t *testing.T) { // P13.1
	for _, size := range []int{1, 2, 3, 4, 64} {
		for _, many := range []int{0, 1, size - 1, size, size + 1, 3*size - 1, 3 * size, 3*size + 1} {
			b := made[int](t, 5, size)
			b.open()
			b.open()
			b.add(1, 5)
			b.add(0, rising(10, many)...)
			pages := b.p.Pages(0)
			for n := range many + 1 {
				id, e := b.share(0, n)
				if id != n+2 || e != api.OK {
					t.Fatalf("%d of %d: %d %d", n, many, id, int(e))
				}
				held := n / size
				if n%size > 0 {
					held++
				}
				b.holds(id, rising(10, n), pages[:held]...)
			}
			free := b.p.Free()
			for _, n := range noneOf(many + 1) {
				if id, e := b.share(0, n); id != 0 || e != api.ErrRange {
					t.Errorf("%d of %d: %d %d", n, many, id, int(e))
				}
			}
			if b.p.Free() != free || free != 5-1-len(pages) {
				t.Errorf("%d of size %d: %d are free, and were %d", many, size, b.p.Free(), free)
			}
			b.stands()
		}
	}
}

// TestShareOfShares has rows share what others share, also where the first one is closed by then.
func TestShareOfShares(t *testing.T) { // P13.1, P13.2, P13.4
	b := made[int](t, 4, 3)
	b.open()
	b.add(0, 1, 2, 3, 4, 5, 6, 7)
	b.share(0, 7)
	b.share(1, 5)
	b.share(2, 3)
	b.share(3, 0)
	b.share(2, 5)
	b.counted(5, 4, 2, 0)
	b.shut(0)
	b.shut(1)
	b.counted(3, 2, 0, 0)
	b.share(5, 4)
	b.counted(4, 3, 0, 0)
	b.needs(b.add(6, 60), api.OK)
	b.holds(6, []int{1, 2, 3, 4, 60}, 0, 2)
	b.needs(b.add(3, 30), api.OK)
	b.holds(3, []int{1, 2, 3, 30}, 0, 3)
	b.needs(b.add(2, 20), api.ErrFull)
	b.needs(b.add(4, 40), api.ErrFull)
	b.shut(5)
	b.needs(b.add(2, 20), api.OK)
	b.holds(2, []int{1, 2, 3, 4, 5, 20}, 0, 1)
	b.holds(4, nil)
	b.counted(3, 1, 1, 1)
}

// TestAppendToAPartlyFullPage has the last page be held by another row, where a page is free, and where none is.
func TestAppendToAPartlyFullPage(t *testing.T) { // P13.2, P13.4
	for n := 1; n < 4; n++ {
		b := made[int](t, 2, 4)
		b.open()
		b.add(0, 1, 2, 3)
		b.share(0, n)
		b.needs(b.add(1, 9), api.OK)
		b.holds(0, []int{1, 2, 3}, 0)
		b.holds(1, append(rising(1, n), 9), 1)
		b.needs(b.add(0, 4), api.OK)
		b.holds(0, []int{1, 2, 3, 4}, 0)
		b.counted(1, 1)
		b.share(1, n)
		b.needs(b.add(2, 8), api.ErrFull)
		if n < 3 {
			b.needs(b.add(1, 8), api.ErrFull)
		}
		b.holds(1, append(rising(1, n), 9), 1)
		b.holds(2, rising(1, n), 1)
		b.counted(1, 2)
	}
}

// TestFirstRowGoesOn has the row that was shared, and not the one that shares, be appended to.
func TestFirstRowGoesOn(t *testing.T) { // P13.2, P13.4
	b := made[int](t, 3, 4)
	b.open()
	b.add(0, 1, 2)
	b.share(0, 1)
	b.share(0, 2)
	b.needs(b.add(0, 3), api.OK)
	b.holds(0, []int{1, 2, 3}, 1)
	b.counted(2, 1, 0)
	b.needs(b.add(1, 4), api.OK)
	b.holds(1, []int{1, 4}, 2)
	b.counted(1, 1, 1)
	// The last one that holds a page has it for itself.
	b.needs(b.add(2, 5, 6), api.OK)
	b.holds(2, []int{1, 2, 5, 6}, 0)
	b.holds(1, []int{1, 4}, 2)
	b.holds(0, []int{1, 2, 3}, 1)
	b.needs(b.add(2, 7), api.ErrFull)
	b.stands()
}

// TestAppendToAFullSharedPage goes on behind it: nothing of it is taken over.
func TestAppendToAFullSharedPage(t *testing.T) { // P13.2
	for _, size := range []int{1, 2, 64} {
		b := made[int](t, 4, size)
		b.open()
		b.add(0, rising(1, 2*size)...)
		b.share(0, 2*size)
		b.share(0, size)
		b.needs(b.add(0, 7), api.OK)
		b.needs(b.add(1, 8), api.OK)
		b.holds(0, append(rising(1, 2*size), 7), 0, 1, 2)
		b.holds(1, append(rising(1, 2*size), 8), 0, 1, 3)
		b.needs(b.add(2, 9), api.ErrFull)
		b.holds(2, rising(1, size), 0)
		b.counted(3, 2, 1, 1)
		b.shut(0)
		b.needs(b.add(2, 9), api.OK)
		b.holds(2, append(rising(1, size), 9), 0, 2)
	}
}

// TestTheOtherRowIsClosed has the page be the row's own again, what the other one had there notwithstanding.
func TestTheOtherRowIsClosed(t *testing.T) { // P13.2
	for many := 1; many <= 4; many++ {
		for n := 1; n <= many; n++ {
			b := made[int](t, 1, 4)
			b.open()
			b.add(0, rising(1, many)...)
			b.share(0, n)
			b.share(0, n)
			if n < 4 {
				b.needs(b.add(1, 9), api.ErrFull)
			}
			b.shut(0)
			if n < 4 {
				b.needs(b.add(1, 9), api.ErrFull)
			}
			b.shut(2)
			b.counted(1)
			l := rising(1, n)
			for len(l) < 4 {
				b.needs(b.add(1, 9+len(l)), api.OK)
				l = append(l, 9+len(l))
				b.holds(1, l, 0)
			}
			b.needs(b.add(1, 9), api.ErrFull)
			b.share(1, 4)
			b.shut(1)
			b.holds(3, l, 0)
		}
	}
}

// TestFirstFreePage has pages be given back in many orders: the first one of them is taken next.
func TestFirstFreePage(t *testing.T) { // P13.2
	orders(5, func(order []int) {
		b := made[int](t, 5, 2)
		for id := range 5 {
			b.open()
			b.add(id, id)
		}
		b.open()
		var given, want []int
		for i, id := range order[:4] {
			b.shut(id)
			given = append(given, id)
			if i%2 == 0 {
				continue
			}
			// As many as one less than are free, so that some stay free in between.
			first := slices.Min(given)
			given = slices.DeleteFunc(given, func(page int) bool { return page == first })
			b.needs(b.add(5, 7, 8), api.OK)
			want = append(want, first)
			if pages := b.p.Pages(5); !slices.Equal(pages, want) {
				t.Fatalf("%d: %d, not %d", order, pages, want)
			}
		}
		b.stands()
	})
}

// TestFirstFreePageInPlace has a page be taken in place of a shared one: it stands where that one stood.
func TestFirstFreePageInPlace(t *testing.T) { // P13.2
	b := made[string](t, 6, 2)
	b.open()
	b.open()
	b.add(0, "x", "x")
	b.add(1, "a", "b", "c", "d", "e")
	b.open()
	b.add(2, "y", "y")
	b.share(1, 5)
	b.shut(0)
	b.needs(b.add(3, "f"), api.OK)
	b.holds(3, []string{"a", "b", "c", "d", "e", "f"}, 1, 2, 0)
	b.holds(1, []string{"a", "b", "c", "d", "e"}, 1, 2, 3)
	b.share(1, 3)
	b.needs(b.add(4, "z"), api.OK)
	b.holds(4, []string{"a", "b", "c", "z"}, 1, 5)
	b.holds(1, []string{"a", "b", "c", "d", "e"}, 1, 2, 3)
	b.counted(1, 3, 2, 1, 1, 1)
	b.needs(b.add(4, "!"), api.ErrFull)
	b.shut(1)
	b.needs(b.add(4, "!"), api.OK)
	b.holds(4, []string{"a", "b", "c", "z", "!"}, 1, 5, 3)
	b.counted(1, 2, 1, 1, 1, 1)
}

// TestCloseInAnyOrder closes rows that share a row, or share what shares it, in all orders there are.
func TestCloseInAnyOrder(t *testing.T) { // P13.1, P13.4
	for _, shares := range [][5]int{{7, 7, 7, 7, 7}, {7, 0, 3, 4, 6}, {7, 5, 5, 2, 1}, {6, 6, 3, 3, 0}} {
		orders(5, func(order []int) {
			b := made[int](t, 8, 3)
			b.open()
			b.add(0, rising(1, shares[0])...)
			b.share(0, shares[1])
			b.share(0, shares[2])
			b.share(1, min(shares[3], shares[1]))
			b.share(2, min(shares[4], shares[2]))
			for i, id := range order {
				b.needs(b.shut(id), api.OK)
				b.needs(b.shut(id), api.ErrNone)
				b.stands()
				for _, other := range order[i+1:] {
					if b.add(other, 100*id+other) == api.ErrFull && b.p.Free() > 0 {
						t.Fatal("no page was taken, and there are some")
					}
				}
				b.stands()
			}
			b.empty()
		})
	}
}

// empty has all pages be free.
func (b both[T]) empty() {
	b.Helper()
	if b.p.Free() != b.w.pages {
		b.Errorf("%d of %d pages are free", b.p.Free(), b.w.pages)
	}
	b.counted(make([]int, b.w.pages)...)
}

// orders goes through all orders of so many numbers from 0 on.
func orders(many int, tell func(order []int)) {
	l := rising(0, many)
	var turn func(from int)
	turn = func(from int) {
		if from == many {
			tell(slices.Clone(l))
			return
		}
		for i := from; i < many; i++ {
			l[from], l[i] = l[i], l[from]
			turn(from + 1)
			l[from], l[i] = l[i], l[from]
		}
	}
	turn(0)
}
