package kv_test

import (
	"iter"
	"math"
	"runtime"
	"slices"
	"strings"
	"sync"
	"testing"
	"weak"

	"cupel/api"
	"cupel/kv"
)

// example is a pool of 4 pages of 2, whose row 0 has a to e, in pages 0 to 2, and whose row 1 has the first three.
func example(t *testing.T) both[string] {
	b := made[string](t, 4, 2)
	b.open()
	b.add(0, "a", "b", "c", "d", "e")
	b.share(0, 3)
	return b
}

func TestGet(t *testing.T) { // P13.3
	b := example(t)
	for _, x := range []struct {
		id, i int
		want  string
		e     api.Errno
	}{
		{0, 0, "a", api.OK}, {0, 1, "b", api.OK}, {0, 2, "c", api.OK}, {0, 3, "d", api.OK}, {0, 4, "e", api.OK},
		{0, 5, "", api.ErrRange}, {0, 6, "", api.ErrRange}, {0, -1, "", api.ErrRange}, {0, math.MinInt, "", api.ErrRange}, {0, math.MaxInt, "", api.ErrRange},
		{1, 0, "a", api.OK}, {1, 2, "c", api.OK}, {1, 3, "", api.ErrRange}, {1, 4, "", api.ErrRange}, {1, -1, "", api.ErrRange},
		{2, 0, "", api.ErrNone}, {-1, 0, "", api.ErrNone}, {-1, -1, "", api.ErrNone},
	} {
		if got, e := b.p.Get(x.id, x.i); got != x.want || e != x.e {
			t.Errorf("Get of %d, %d: %q %d, not %q %d", x.id, x.i, got, int(e), x.want, int(x.e))
		}
	}
	b.open()
	b.get(2, 0)
	b.get(2, -1)
	b.stands()
}

func TestCount(t *testing.T) { // P13.3
	b := example(t)
	b.counted(2, 2, 1, 0, 0)
	if n := b.p.Free(); n != 1 {
		t.Error(n)
	}
	for _, page := range noneOf(4) {
		if n := b.p.Count(page); n != 0 {
			t.Errorf("Count of %d: %d", page, n)
		}
	}
	for range 20 {
		b.share(0, 5)
	}
	b.counted(22, 22, 21, 0, 0)
	b.shut(0)
	b.counted(21, 21, 20, 0, 0)
	b.stands()
}

// photo is what All has answered, and what it has to tell, whenever it is asked.
type photo[T any] struct {
	all  iter.Seq[T]
	want []T
}

func (b both[T]) photoOf(id int) photo[T] {
	b.Helper()
	all := b.p.All(id)
	if all == nil {
		b.Fatalf("All of %d is nil", id)
	}
	r, _ := told(func() plainRow[T] { return *b.w.row(id) })
	return photo[T]{all, slices.Clone(r.l)}
}

// shows goes through a photo, as far as to each of its things, and twice.
func (b both[T]) shows(x photo[T]) {
	b.Helper()
	for range 2 {
		if l := slices.Collect(x.all); !slices.EqualFunc(l, x.want, b.same) {
			b.Fatalf("%v, not %v", l, x.want)
		}
	}
	for most := range x.want {
		var l []T
		for thing := range x.all {
			l = append(l, thing)
			if len(l) > most {
				break
			}
		}
		if !slices.EqualFunc(l, x.want[:most+1], b.same) {
			b.Fatalf("up to %d: %v, not %v", most, l, x.want[:most+1])
		}
	}
}

// TestAllIsAsItWas turns rows in all ways there are, between All and the going through.
func TestAllIsAsItWas(t *testing.T) { // P13.3, R3
	b := example(t)
	b.open()
	var photos []photo[string]
	look := func() {
		t.Helper()
		for _, id := range []int{-1, 0, 1, 2, 3, 4, 5, math.MaxInt} {
			photos = append(photos, b.photoOf(id))
		}
		for _, x := range photos {
			b.shows(x)
		}
	}
	look()
	b.needs(b.add(1, "x"), api.OK)
	look()
	b.needs(b.add(0, "f"), api.OK)
	look()
	b.needs(b.add(0, "g"), api.ErrFull)
	look()
	b.share(0, 1)
	look()
	b.shut(0)
	look()
	b.needs(b.add(3, "y", "z"), api.OK)
	look()
	b.shut(1)
	b.needs(b.add(2, "p", "q", "r"), api.OK)
	look()
	b.shut(2)
	b.shut(3)
	b.open()
	b.needs(b.add(4, "A", "B", "C", "D", "E", "F", "G", "H"), api.OK)
	look()
	b.stands()
}

// TestAllInItsMidst turns rows while a row is gone through.
func TestAllInItsMidst(t *testing.T) { // P13.3
	b := made[int](t, 6, 2)
	b.open()
	b.add(0, 1, 2, 3)
	var l []int
	all := b.p.All(0)
	for x := range all {
		l = append(l, x)
		switch len(l) {
		case 1:
			b.add(0, 4, 5)
			b.share(0, 3)
		case 2:
			b.add(1, 9)
			b.shut(0)
			b.open()
			b.add(2, 7, 7, 7, 7)
		case 3:
			b.shut(1)
			b.shut(2)
		}
	}
	if !slices.Equal(l, []int{1, 2, 3}) || !slices.Equal(slices.Collect(all), l) {
		t.Error(l)
	}
	b.stands()
	b.empty()
	// One is gone through within another one, and within itself.
	b.open()
	b.add(3, 1, 2, 3, 4)
	b.share(3, 2)
	times, here := 0, b.p.All(3)
	for range here {
		for range b.p.All(4) {
			for range here {
				times++
			}
		}
	}
	if times != 4*2*4 {
		t.Error(times)
	}
}

// TestAllStopsAtOnce has what goes through it say that it is enough, and not be called again.
func TestAllStopsAtOnce(t *testing.T) { // P13.3, R2
	b := example(t)
	for most := range 5 {
		calls := 0
		b.p.All(0)(func(string) bool {
			calls++
			return calls <= most
		})
		if calls != most+1 {
			t.Errorf("%d calls, not %d", calls, most+1)
		}
	}
	// What goes through it may also leave by a panic: the pool stands as it stood.
	for range 2 {
		func() {
			defer func() {
				if recover() != "enough" {
					t.Error("the panic is not the one of what goes through it")
				}
			}()
			b.p.All(0)(func(string) bool { panic("enough") })
		}()
	}
	b.stands()
}

// TestPagesAreTheCallers writes over what Pages has answered, and into the room behind it.
func TestPagesAreTheCallers(t *testing.T) { // P13.3, R2
	b := made[int](t, 9, 2)
	b.open()
	b.open()
	for i := range 9 {
		for id := range b.w.open() {
			l := b.p.Pages(id)
			l = l[:cap(l)]
			for place := range l {
				l[place] = 8 - place
			}
			b.stands()
		}
		b.add(0, i)
		if i == 4 {
			b.share(0, 3)
		}
		b.stands()
	}
	l := b.p.Pages(0)
	b.add(0, 77)
	b.shut(1)
	b.share(0, 1)
	b.shut(0)
	if !slices.Equal(l, []int{0, 1, 2, 3, 4}) {
		t.Error(l)
	}
}

// TestTypes has pools of things of many types.
func TestTypes(t *testing.T) { // P13.1, P13.2, P13.3
	type pair struct {
		name string
		n    [2]int
	}
	one, two := 1, 1
	goThrough(made[int](t, 4, 3), 1, 0, -5, math.MinInt, math.MaxInt)
	goThrough(made[string](t, 4, 3), "a", "", "ab", strings.Repeat("x", 5000))
	goThrough(made[byte](t, 4, 3), 1, 2, 0, 255)
	goThrough(made[bool](t, 4, 3), true, false, true)
	goThrough(made[float64](t, 4, 3), 1.5, 0, math.Inf(1))
	goThrough(made[pair](t, 4, 3), pair{"a", [2]int{1, 2}}, pair{}, pair{"b", [2]int{}})
	goThrough(made[[3]int](t, 4, 3), [3]int{1, 2, 3}, [3]int{}, [3]int{3, 2, 1})
	goThrough(made[struct{}](t, 4, 3), struct{}{}, struct{}{})
	goThrough(made[*int](t, 4, 3), &one, &two, nil)
	goThrough(made[any](t, 4, 3), []any{1, nil, "a", pair{}}...)
	goThrough(made[error](t, 4, 3), []error{api.ErrNone, nil, api.OK}...)
	goThrough(made[api.Digest](t, 4, 3), api.Digest{1}, api.Digest{}, api.Digest{2})
	goThrough(madeOf(t, 4, 3, slices.Equal[[]int]), []int{1, 2}, nil, []int{}, []int{1})
	goThrough(madeOf(t, 4, 3, sameRows), [][]int{{1}, {2, 3}}, nil, [][]int{{}}, [][]int{{1}, {}})
	goThrough(madeOf(t, 4, 3, func(x, y map[string]int) bool { return x["a"] == y["a"] }), map[string]int{"a": 1}, nil, map[string]int{"a": 2})
	goThrough(madeOf(t, 4, 3, func(x, y func() int) bool { return (x == nil) == (y == nil) && (x == nil || x() == y()) }), func() int { return 1 }, nil, func() int { return 2 })
	inner := made[int](t, 1, 1)
	goThrough(made[*kv.Pool[int]](t, 4, 3), inner.p, nil)
}

func sameRows(x, y [][]int) bool { return slices.EqualFunc(x, y, slices.Equal[[]int]) }

// goThrough has a pool of 4 pages of 3 have these things, and share them, and give them back.
func goThrough[T any](b both[T], things ...T) {
	b.Helper()
	b.open()
	for i := range 7 {
		b.needs(b.add(0, things[i%len(things)]), api.OK)
		b.stands()
	}
	b.share(0, 5)
	x := b.photoOf(1)
	b.needs(b.add(1, things[0]), api.OK)
	b.needs(b.add(0, things[len(things)-1]), api.OK)
	b.stands()
	b.shut(0)
	b.stands()
	b.needs(b.add(1, things...), api.OK)
	b.stands()
	b.shut(1)
	b.stands()
	b.shows(x)
	b.empty()
}

// TestThingsAreHandedOn has a pool not look into things: one that is a slice is the same slice later on, and is not written into.
func TestThingsAreHandedOn(t *testing.T) { // P13.2, P13.3, R2
	b := madeOf(t, 2, 2, slices.Equal[[]int])
	room := []int{1, 2, 3, 4}
	b.open()
	b.add(0, room[:2], room[2:3], room[:0])
	b.share(0, 1)
	b.add(1, nil, []int{9})
	b.shut(0)
	b.add(1, []int{8})
	b.shut(1)
	if !slices.Equal(room, []int{1, 2, 3, 4}) {
		t.Error(room)
	}
}

// TestAskedSideBySide has a pool tell at once from many places what it tells one behind the other.
func TestAskedSideBySide(t *testing.T) { // R3
	b := example(t)
	x := b.photoOf(0)
	var all sync.WaitGroup
	for range 8 {
		all.Go(func() {
			for range 50 {
				b.shows(x)
				b.stands()
			}
		})
	}
	all.Wait()
}

// TestFreePagesKeepNothing has what lay in pages that are free be nobody's any more.
func TestFreePagesKeepNothing(t *testing.T) { // P13.1
	p, _ := kv.New[*[64]int](3, 2)
	p.Open()
	var seen []weak.Pointer[[64]int]
	for range 5 {
		thing := new([64]int)
		seen = append(seen, weak.Make(thing))
		p.Append(0, thing)
	}
	p.Share(0, 2)
	p.Close(0)
	runtime.GC()
	for i, thing := range seen {
		if kept := thing.Value() != nil; kept != (i < 2) {
			t.Errorf("thing %d is kept: %v", i, kept)
		}
	}
	runtime.KeepAlive(p)
}
