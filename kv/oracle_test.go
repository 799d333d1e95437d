package kv_test

import (
	"math"
	"math/rand/v2"
	"slices"
	"testing"

	"cupel/api"
	"cupel/kv"
)

// This file tells the chapter's words once more, to hold the package against them: no two rows have a thing together there, pages are numbers alone, and who holds them is looked up row by row.

// plain is what a pool is held against.
type plain[T any] struct {
	pages, size int
	rows        []plainRow[T] // all that were opened
}

type plainRow[T any] struct {
	open  bool
	l     []T
	pages []int
}

// need leaves with an error, if something does not hold.
func need(holds bool, e api.Errno) {
	if !holds {
		panic(e)
	}
}

// told is what f tells, or the error with which it left.
func told[T any](f func() T) (x T, e api.Errno) {
	defer func() {
		switch left := recover().(type) {
		case nil:
		case api.Errno:
			e = left
		default:
			panic(left)
		}
	}()
	return f(), api.OK
}

func (w *plain[T]) row(id int) *plainRow[T] {
	need(0 <= id && id < len(w.rows) && w.rows[id].open, api.ErrNone)
	return &w.rows[id]
}

func (w *plain[T]) put(r plainRow[T]) int {
	need(len(w.rows) < 1024, api.ErrFull)
	r.open = true
	w.rows = append(w.rows, r)
	return len(w.rows) - 1
}

func (w *plain[T]) share(id, n int) int {
	r := w.row(id)
	need(0 <= n && n <= len(r.l), api.ErrRange)
	held := 0
	for held*w.size < n {
		held++
	}
	return w.put(plainRow[T]{l: slices.Clone(r.l[:n]), pages: slices.Clone(r.pages[:held])})
}

func (w *plain[T]) add(id int, x T) int {
	r := w.row(id)
	hasRoom := len(r.l) < len(r.pages)*w.size
	if !hasRoom || w.count(r.pages[len(r.pages)-1]) > 1 {
		free := slices.Index(w.counts(), 0)
		need(free >= 0, api.ErrFull)
		if hasRoom {
			r.pages = r.pages[:len(r.pages)-1]
		}
		r.pages = append(r.pages, free)
	}
	r.l = append(r.l, x)
	return 0
}

func (w *plain[T]) shut(id int) int {
	*w.row(id) = plainRow[T]{}
	return 0
}

func (w *plain[T]) get(id, i int) T {
	r := w.row(id)
	need(0 <= i && i < len(r.l), api.ErrRange)
	return r.l[i]
}

// counts is how many rows hold each page.
func (w *plain[T]) counts() []int {
	counts := make([]int, w.pages)
	for _, r := range w.rows {
		for _, page := range r.pages {
			counts[page]++
		}
	}
	return counts
}

func (w *plain[T]) count(page int) int {
	if page < 0 || page >= w.pages {
		return 0
	}
	return w.counts()[page]
}

// open is the rows that are open.
func (w *plain[T]) open() []int {
	var l []int
	for id, r := range w.rows {
		if r.open {
			l = append(l, id)
		}
	}
	return l
}

// both is a pool and what it is held against.
type both[T any] struct {
	*testing.T
	p    *kv.Pool[T]
	w    *plain[T]
	same func(x, y T) bool
}

// made is a pool that may be.
func made[T comparable](t *testing.T, pages, size int) both[T] {
	t.Helper()
	return madeOf(t, pages, size, func(x, y T) bool { return x == y })
}

// madeOf is one of things that are the same by some rule.
func madeOf[T any](t *testing.T, pages, size int, same func(x, y T) bool) both[T] {
	t.Helper()
	p, e := kv.New[T](pages, size)
	if p == nil || e != api.OK {
		t.Fatalf("%d pages of %d: %d", pages, size, int(e))
	}
	return both[T]{t, p, &plain[T]{pages: pages, size: size}, same}
}

func (b both[T]) open() (int, api.Errno) {
	b.Helper()
	id, e := b.p.Open()
	want, wantE := told(func() int { return b.w.put(plainRow[T]{}) })
	b.answered("Open", id, e, want, wantE)
	return id, e
}

func (b both[T]) share(id, n int) (int, api.Errno) {
	b.Helper()
	got, e := b.p.Share(id, n)
	want, wantE := told(func() int { return b.w.share(id, n) })
	b.answered("Share", got, e, want, wantE, id, n)
	return got, e
}

func (b both[T]) add(id int, l ...T) api.Errno {
	b.Helper()
	var e api.Errno
	for _, x := range l {
		e = b.p.Append(id, x)
		_, wantE := told(func() int { return b.w.add(id, x) })
		b.answered("Append", 0, e, 0, wantE, id)
	}
	return e
}

func (b both[T]) shut(id int) api.Errno {
	b.Helper()
	e := b.p.Close(id)
	_, wantE := told(func() int { return b.w.shut(id) })
	b.answered("Close", 0, e, 0, wantE, id)
	return e
}

// answered holds what was answered against what is wanted.
func (b both[T]) answered(call string, n int, e api.Errno, want int, wantE api.Errno, args ...int) {
	b.Helper()
	if n != want || e != wantE {
		b.Fatalf("%s of %d: %d %d, not %d %d", call, args, n, int(e), want, int(wantE))
	}
}

// stands holds all that a pool tells against what is wanted.
func (b both[T]) stands() {
	b.Helper()
	for id := range b.w.rows {
		b.row(id)
	}
	for _, id := range noneOf(len(b.w.rows)) {
		b.row(id)
	}
	counts, free := b.w.counts(), 0
	for page, want := range counts {
		if n := b.p.Count(page); n != want {
			b.Fatalf("Count of %d: %d, not %d", page, n, want)
		}
		if want == 0 {
			free++
		}
	}
	for _, page := range noneOf(b.w.pages) {
		if n := b.p.Count(page); n != 0 {
			b.Fatalf("Count of %d: %d", page, n)
		}
	}
	if n := b.p.Free(); n != free {
		b.Fatalf("Free: %d, not %d", n, free)
	}
}

// row holds all that is told of a row against what is wanted.
func (b both[T]) row(id int) {
	b.Helper()
	r, wantE := told(func() plainRow[T] { return *b.w.row(id) })
	if n, e := b.p.Len(id); n != len(r.l) || e != wantE {
		b.Fatalf("Len of %d: %d %d, not %d %d", id, n, int(e), len(r.l), int(wantE))
	}
	if pages := b.p.Pages(id); !slices.Equal(pages, r.pages) {
		b.Fatalf("Pages of %d: %d, not %d", id, pages, r.pages)
	}
	if l := slices.Collect(b.p.All(id)); !slices.EqualFunc(l, r.l, b.same) {
		b.Fatalf("All of %d: %v, not %v", id, l, r.l)
	}
	for i := range r.l {
		b.get(id, i)
	}
	for _, i := range noneOf(len(r.l)) {
		b.get(id, i)
	}
}

func (b both[T]) get(id, i int) {
	b.Helper()
	x, e := b.p.Get(id, i)
	want, wantE := told(func() T { return b.w.get(id, i) })
	if e != wantE || !b.same(x, want) {
		b.Fatalf("Get of %d, %d: %v %d, not %v %d", id, i, x, int(e), want, int(wantE))
	}
}

// noneOf is numbers of which there is none, where there are so many.
func noneOf(many int) []int {
	return []int{-1, -2, -many - 1, -256, -1 << 31, -1 << 32, math.MinInt, math.MinInt + 1, many, many + 1, 2*many + 2, many + 1<<32, many + 256, math.MaxInt - 1, math.MaxInt}
}

// newChance is numbers of all kinds, the same in each run.
func newChance(seed uint64) *rand.Rand { return rand.New(rand.NewPCG(seed, 71)) }

// rising is numbers from one on.
func rising(from, many int) []int {
	l := make([]int, many)
	for i := range l {
		l[i] = from + i
	}
	return l
}
