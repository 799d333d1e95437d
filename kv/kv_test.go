package kv_test

import (
	"slices"
	"testing"

	"cupel/api"
	"cupel/kv"
)

func TestNew(t *testing.T) { // P13.1, R1
	numbers := append(noneOf(256), 0, 1, 2, 3, 7, 63, 64, 65, 100, 128, 255, 1<<16)
	for _, pages := range numbers {
		for _, size := range numbers {
			p, e := kv.New[int](pages, size)
			if pages < 1 || pages > 256 || size < 1 || size > 64 {
				if p != nil || e != api.ErrSize {
					t.Errorf("%d pages of %d: %v %d", pages, size, p, int(e))
				}
				continue
			}
			if p == nil || e != api.OK {
				t.Fatalf("%d pages of %d: %d", pages, size, int(e))
			}
			b := made[int](t, pages, size)
			b.stands()
			if p.Free() != pages || p.Count(0) != 0 || p.Count(pages-1) != 0 {
				t.Errorf("%d pages of %d: %d are free", pages, size, p.Free())
			}
		}
	}
	for _, x := range []struct {
		pages, size int
		e           api.Errno
	}{{0, 1, api.ErrSize}, {1, 0, api.ErrSize}, {1, 1, api.OK}, {256, 64, api.OK}, {257, 64, api.ErrSize}, {256, 65, api.ErrSize}, {0, 0, api.ErrSize}, {-1, 5, api.ErrSize}, {5, -1, api.ErrSize}} {
		if p, e := kv.New[string](x.pages, x.size); e != x.e || (p == nil) != (e != api.OK) {
			t.Errorf("%d pages of %d: %d", x.pages, x.size, int(e))
		}
	}
	if kv.MaxPages != 256 || kv.MaxSize != 64 || kv.MaxRows != 1024 {
		t.Error(kv.MaxPages, kv.MaxSize, kv.MaxRows)
	}
}

// TestExample is the chapter's one.
func TestExample(t *testing.T) { // P13.1, P13.2
	b := made[string](t, 2, 2)
	if id, e := b.open(); id != 0 || e != api.OK {
		t.Error(id, int(e))
	}
	if e := b.add(0, "a", "b", "c"); e != api.OK {
		t.Error(int(e))
	}
	if id, e := b.share(0, 3); id != 1 || e != api.OK {
		t.Error(id, int(e))
	}
	if e := b.add(1, "d"); e != api.ErrFull {
		t.Error(int(e))
	}
	if e := b.shut(0); e != api.OK {
		t.Error(int(e))
	}
	if e := b.add(1, "d"); e != api.OK {
		t.Error(int(e))
	}
	b.stands()
	if pages := b.p.Pages(1); !slices.Equal(pages, []int{0, 1}) {
		t.Error(pages)
	}
	if l := slices.Collect(b.p.All(1)); !slices.Equal(l, []string{"a", "b", "c", "d"}) {
		t.Error(l)
	}
}

// TestToTheLastRow opens as many rows as a pool opens, by Open, by Share and by both, of which some are closed again.
func TestToTheLastRow(t *testing.T) { // P13.1
	for name, opens := range map[string]func(b both[int], id int) (int, api.Errno){
		"Open":       func(b both[int], id int) (int, api.Errno) { return b.open() },
		"Share of 0": func(b both[int], id int) (int, api.Errno) { return b.share(0, 0) },
		"Share of 5": func(b both[int], id int) (int, api.Errno) { return b.share(0, 5) },
		"both": func(b both[int], id int) (int, api.Errno) {
			if id%2 == 0 {
				return b.open()
			}
			return b.share(0, id%8)
		},
	} {
		for which, closes := range map[string]func(id int) bool{
			"none": func(id int) bool { return false },
			"all":  func(id int) bool { return id > 0 },
			"some": func(id int) bool { return id%4 == 3 },
		} {
			b := made[int](t, 4, 2)
			b.open()
			b.add(0, rising(10, 7)...)
			for id := 1; id < 1024; id++ {
				if n, e := opens(b, id); n != id || e != api.OK {
					t.Fatalf("%s, %s closed: %d %d, not %d", name, which, n, int(e), id)
				}
				if closes(id) {
					b.shut(id)
				}
			}
			b.stands()
			for range 3 {
				b.full()
			}
			b.stands()
			for _, id := range b.w.open() {
				b.shut(id)
			}
			b.full()
			b.stands()
			if b.p.Free() != 4 {
				t.Errorf("%s, %s closed: %d", name, which, b.p.Free())
			}
		}
	}
}

// full has no row be opened any more, in none of the ways there are.
func (b both[T]) full() {
	b.Helper()
	if id, e := b.open(); id != 0 || e != api.ErrFull {
		b.Errorf("Open: %d %d", id, int(e))
	}
	for _, of := range b.w.open() {
		for _, n := range []int{0, len(b.w.rows[of].l)} {
			if id, e := b.share(of, n); id != 0 || e != api.ErrFull {
				b.Errorf("Share of %d, %d: %d %d", of, n, id, int(e))
			}
		}
	}
}

// TestWhichErrorIsFirst has two things be wrong at once.
func TestWhichErrorIsFirst(t *testing.T) { // P13.1, P13.2, P13.3, R1
	b := made[int](t, 2, 2)
	b.open()
	b.add(0, 1, 2, 3, 4)
	b.open()
	b.shut(1)
	for _, id := range append(noneOf(2), 1) {
		for _, n := range append(noneOf(4), 0, 1, 4) {
			if got, e := b.share(id, n); got != 0 || e != api.ErrNone {
				t.Errorf("Share of %d, %d: %d %d", id, n, got, int(e))
			}
			if x, e := b.p.Get(id, n); x != 0 || e != api.ErrNone {
				t.Errorf("Get of %d, %d: %d %d", id, n, x, int(e))
			}
		}
		if e := b.add(id, 9); e != api.ErrNone || b.p.Free() != 0 {
			t.Errorf("Append to %d: %d", id, int(e))
		}
	}
	for range 1022 {
		b.open()
	}
	for _, n := range noneOf(5) {
		if id, e := b.share(0, n); id != 0 || e != api.ErrRange {
			t.Errorf("Share of %d: %d %d", n, id, int(e))
		}
	}
	for _, id := range append(noneOf(1024), 1) {
		if got, e := b.share(id, 0); got != 0 || e != api.ErrNone {
			t.Errorf("Share of %d: %d %d", id, got, int(e))
		}
	}
	b.full()
	b.stands()
}

// TestWrongIDs asks for rows that there are not, that are closed, and that were never opened.
func TestWrongIDs(t *testing.T) { // P13.1, P13.2, P13.3, R1
	b := made[string](t, 3, 2)
	wrong := func(ids ...int) {
		t.Helper()
		for _, id := range ids {
			if e := b.shut(id); e != api.ErrNone {
				t.Errorf("Close of %d: %d", id, int(e))
			}
			if n, e := b.share(id, 0); n != 0 || e != api.ErrNone {
				t.Errorf("Share of %d: %d %d", id, n, int(e))
			}
			if e := b.add(id, "x"); e != api.ErrNone {
				t.Errorf("Append to %d: %d", id, int(e))
			}
			if x, e := b.p.Get(id, 0); x != "" || e != api.ErrNone {
				t.Errorf("Get of %d: %q %d", id, x, int(e))
			}
			if n, e := b.p.Len(id); n != 0 || e != api.ErrNone {
				t.Errorf("Len of %d: %d %d", id, n, int(e))
			}
			if l := b.p.Pages(id); len(l) != 0 {
				t.Errorf("Pages of %d: %d", id, l)
			}
			if l := slices.Collect(b.p.All(id)); len(l) != 0 {
				t.Errorf("All of %d: %q", id, l)
			}
		}
		b.stands()
	}
	wrong(append(noneOf(0), 1023, 1024)...)
	b.open()
	b.add(0, "a", "b", "c")
	b.share(0, 2)
	b.open()
	wrong(append(noneOf(3), 1023, 1024)...)
	b.shut(1)
	wrong(append(noneOf(3), 1, 1023, 1024)...)
	b.shut(0)
	b.shut(2)
	wrong(append(noneOf(3), 0, 1, 2, 1023, 1024)...)
	if id, e := b.open(); id != 3 || e != api.OK {
		t.Error(id, int(e))
	}
	wrong(0, 1, 2, 4)
}

// TestNilPool asks all calls of no pool, in any order.
func TestNilPool(t *testing.T) { // P13.1, P13.2, P13.3, R1
	var p *kv.Pool[string]
	for range 2 {
		if id, e := p.Open(); id != 0 || e != api.ErrNil {
			t.Error(id, int(e))
		}
		if p.Free() != 0 {
			t.Error(p.Free())
		}
		for _, id := range append(noneOf(1), 0) {
			for _, n := range append(noneOf(1), 0) {
				if got, e := p.Share(id, n); got != 0 || e != api.ErrNil {
					t.Errorf("Share of %d, %d: %d %d", id, n, got, int(e))
				}
				if x, e := p.Get(id, n); x != "" || e != api.ErrNil {
					t.Errorf("Get of %d, %d: %q %d", id, n, x, int(e))
				}
			}
			if e := p.Append(id, "a"); e != api.ErrNil {
				t.Errorf("Append to %d: %d", id, int(e))
			}
			if e := p.Close(id); e != api.ErrNil {
				t.Errorf("Close of %d: %d", id, int(e))
			}
			if n, e := p.Len(id); n != 0 || e != api.ErrNil {
				t.Errorf("Len of %d: %d %d", id, n, int(e))
			}
			if l := p.Pages(id); len(l) != 0 {
				t.Errorf("Pages of %d: %d", id, l)
			}
			if n := p.Count(id); n != 0 {
				t.Errorf("Count of %d: %d", id, n)
			}
			all := p.All(id)
			if all == nil {
				t.Fatalf("All of %d is nil", id)
			}
			for range 2 {
				for x := range all {
					t.Errorf("All of %d: %q", id, x)
				}
			}
		}
	}
}
