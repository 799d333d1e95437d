package tensor_test

import (
	"slices"
	"strconv"
	"sync"
	"testing"

	"cupel/api"
	"cupel/tensor"
)

// call is a call of lists and a number, and what is wanted of it. A call that answers a number answers it as a list of one.
type call struct {
	name string
	ask  func(lists [][]int, n int) ([]int, api.Errno)
	want func(lists [][]int, n int) ([]int, api.Errno)
}

// single is one number as a list; none beside an error.
func single(n int, e api.Errno) ([]int, api.Errno) {
	if e != api.OK && n == 0 {
		return nil, e
	}
	return []int{n}, e
}

// ofLists is a matrix of as many columns as the second list has numbers, of the first one.
func ofLists(l [][]int) tensor.Matrix {
	cols := max(1, len(l[1]))
	return tensor.Matrix{Rows: len(l[0]) / cols, Cols: cols, L: l[0]}
}

func calls() []call {
	return []call{
		{"Matrix.Check", func(l [][]int, _ int) ([]int, api.Errno) { return nil, ofLists(l).Check() }, func(l [][]int, _ int) ([]int, api.Errno) { return nil, wantMatrix(ofLists(l)) }},
		{"Row", func(l [][]int, n int) ([]int, api.Errno) { return ofLists(l).Row(n) }, func(l [][]int, n int) ([]int, api.Errno) { return wantRow(ofLists(l), n) }},
		{"Check", func(l [][]int, _ int) ([]int, api.Errno) { return nil, tensor.Check(l[0]) }, func(l [][]int, _ int) ([]int, api.Errno) { return nil, wantCheck(l[0]) }},
		{"Dot", func(l [][]int, _ int) ([]int, api.Errno) { return single(tensor.Dot(l[0], l[1])) }, func(l [][]int, _ int) ([]int, api.Errno) { return single(wantDot(l[0], l[1])) }},
		{"Mul", func(l [][]int, _ int) ([]int, api.Errno) { return tensor.Mul(ofLists(l), l[1]) }, func(l [][]int, _ int) ([]int, api.Errno) { return wantMul(ofLists(l), l[1]) }},
		{"Add", func(l [][]int, _ int) ([]int, api.Errno) { return tensor.Add(l[0], l[1]) }, func(l [][]int, _ int) ([]int, api.Errno) { return wantAdd(l[0], l[1]) }},
		{"Norm", func(l [][]int, _ int) ([]int, api.Errno) { return tensor.Norm(l[0], l[1]) }, func(l [][]int, _ int) ([]int, api.Errno) { return wantNorm(l[0], l[1]) }},
		{"Softmax", func(l [][]int, _ int) ([]int, api.Errno) { return tensor.Softmax(l[0]) }, func(l [][]int, _ int) ([]int, api.Errno) { return wantSoftmax(l[0]) }},
		{"Rotate", func(l [][]int, n int) ([]int, api.Errno) { return tensor.Rotate(l[0], n) }, func(l [][]int, n int) ([]int, api.Errno) { return wantRotate(l[0], n) }},
		{"Mix", func(l [][]int, _ int) ([]int, api.Errno) { return tensor.Mix(l[0], l[1:]...) }, func(l [][]int, _ int) ([]int, api.Errno) { return wantMix(l[0], l[1:]...) }},
		{"Most", func(l [][]int, _ int) ([]int, api.Errno) { return single(tensor.Most(l[0])) }, func(l [][]int, _ int) ([]int, api.Errno) { return single(wantMost(l[0])) }},
		{"Top", func(l [][]int, n int) ([]int, api.Errno) { return tensor.Top(l[0], n) }, func(l [][]int, n int) ([]int, api.Errno) { return wantTop(l[0], n) }},
	}
}

// holdCall holds a call against what is wanted of it.
func holdCall(t *testing.T, c call, lists [][]int, n int) {
	t.Helper()
	l, e := c.ask(lists, n)
	want, wantE := c.want(lists, n)
	if !slices.Equal(l, want) || e != wantE {
		t.Fatalf("%s of %d, %d: %d %d, not %d %d", c.name, lists, n, l, int(e), want, int(wantE))
	}
}

// scene is what calls are asked of.
type scene struct {
	lists [][]int
	n     int
}

// scenes is lists by which each call answers in some of them, and has an error in others.
func scenes() []scene {
	return []scene{
		{[][]int{{1, 2}, {3, -4}}, 1}, {[][]int{{one, 2 * one, 0, 5}, {7, 8, 9, 10}}, 3}, {[][]int{{one, 2 * one, 3 * one, 4 * one}, {7, 8}}, 1}, {[][]int{{one, 5, 0}, {7, 8}, {high, low}, {1, -1}}, 2},
		{[][]int{row(64, 300), upDown(64)}, 0}, {[][]int{row(64*64, 300), upDown(64)}, 63}, {[][]int{upDown(512), row(512, 3)}, 512}, {[][]int{row(64, 1000), upDown(64)}, 64},
		{[][]int{row(2, high), row(2, high)}, 1}, {[][]int{{1, high + 1}, {2, 3}}, 1}, {[][]int{{1, 2}, {2, low - 1}}, -1}, {[][]int{nil, nil}, 0}, {[][]int{{}, {1}}, 1024}, {[][]int{row(513, 1), row(513, 1)}, 1}, {[][]int{row(65, 1), row(65, 1)}, 1},
		{append([][]int{row(64, 1024)}, vectors(64, 512, high)...), 1},
	}
}

// inRoom is lists that stand in one longer row, each with room behind it, up to what stands there; and that row.
func inRoom(lists [][]int) (stood [][]int, room []int) {
	for _, l := range lists {
		room = append(room, joined(l, row(7, 123456789))...)
	}
	at := 0
	for _, l := range lists {
		stood = append(stood, room[at:at+len(l):at+len(l)+7])
		at += len(l) + 7
	}
	return stood, room
}

func TestNothingIsWritten(t *testing.T) { // R2
	for _, s := range scenes() {
		lists, room := inRoom(s.lists)
		kept := slices.Clone(room)
		for _, c := range calls() {
			holdCall(t, c, lists, s.n)
			if !slices.Equal(room, kept) {
				t.Fatalf("%s has written into %d", c.name, s.lists)
			}
		}
	}
}

func TestAnswersAreNew(t *testing.T) { // R2
	for _, s := range scenes() {
		lists, room := inRoom(s.lists)
		kept := slices.Clone(room)
		for _, c := range calls() {
			l, e := c.ask(lists, s.n)
			again, _ := c.ask(lists, s.n)
			for i := range l[:cap(l)] {
				l[:cap(l)][i] = -77
			}
			if !slices.Equal(room, kept) {
				t.Fatalf("%s of %d answers what was handed in", c.name, s.lists)
			}
			want, wantE := c.want(lists, s.n)
			if !slices.Equal(again, want) || e != wantE {
				t.Fatalf("%s of %d: two answers are one", c.name, s.lists)
			}
		}
	}
}

// TestNothingIsKept turns what was handed in, and asks again.
func TestNothingIsKept(t *testing.T) { // R3
	lists := [][]int{{one, 2, 3, 4}, {5, 6, 7, 8}}
	for _, c := range calls() {
		for n := range 5 {
			for i := range 4 {
				holdCall(t, c, lists, n)
				lists[0][i] += 3 * n
				lists[1][3-i] -= 5 * n
			}
		}
	}
}

// TestSideBySide asks all calls at once, forward and backward: what is answered hangs on the arguments alone.
func TestSideBySide(t *testing.T) { // R3
	l := scenes()
	var all sync.WaitGroup
	for back := range 8 {
		all.Go(func() {
			for i := range l {
				s := l[i]
				if back%2 == 1 {
					s = l[len(l)-1-i]
				}
				for _, c := range calls() {
					got, e := c.ask(s.lists, s.n)
					if want, wantE := c.want(s.lists, s.n); !slices.Equal(got, want) || e != wantE {
						t.Errorf("%s of %d: %d %d", c.name, s.lists, got, int(e))
					}
				}
			}
		})
	}
	all.Wait()
}

// place is the number that is handed in beside lists: a place, a row, or how many.
func (c chance) place() int {
	switch c.IntN(40) {
	case 0:
		return noCounts()[c.IntN(len(noCounts()))]
	case 1:
		return 1023
	case 2:
		return 1024
	}
	return c.IntN(1 + 1023>>c.IntN(10))
}

// TestAnyLists asks each call of lists of many sizes, as it takes them, and now and then otherwise.
func TestAnyLists(t *testing.T) { // P7.1 to P7.4, R1
	c := newChance(7)
	answered := map[string]int{}
	ask := func(x call, lists [][]int, n int) {
		holdCall(t, x, lists, n)
		if _, e := x.ask(lists, n); e == api.OK {
			answered[x.name]++
		}
	}
	for range 1500 {
		bits := 1 + c.IntN(31)
		cols := c.size(64)
		v := c.vector(cols, bits)
		weights := make([]int, cols*min(1+c.IntN(8), max(1, 33-bits)))
		for i := range weights {
			weights[i] = c.weight() >> (bits / 2)
		}
		wide := c.vector(c.size(512), bits)
		shares := make([]int, c.size(64))
		mixed := [][]int{shares}
		for k := range shares {
			shares[k] = c.IntN(65537) >> c.IntN(17)
			mixed = append(mixed, c.vector(1+len(wide)%9, bits))
		}
		for _, x := range calls() {
			switch x.name {
			case "Mul", "Row", "Matrix.Check":
				ask(x, [][]int{weights, v}, c.place()%9)
			case "Dot":
				ask(x, [][]int{weights[:cols], v}, 0)
			case "Norm":
				ask(x, [][]int{v, c.vector(cols, 1+c.IntN(31))}, 0)
			case "Mix":
				ask(x, mixed, 0)
			default:
				ask(x, [][]int{wide, c.vector(len(wide), bits)}, c.place())
			}
		}
	}
	for _, x := range calls() {
		if answered[x.name] < 100 {
			t.Error(x.name, strconv.Itoa(answered[x.name]))
		}
	}
}

func FuzzCalls(f *testing.F) { // P7.1 to P7.4, R1
	f.Add([]byte{1, 2, 3, 4, 5, 6, 7, 8}, uint8(2), 1, uint8(31))
	f.Add([]byte{255, 0, 255, 0, 128, 127, 9, 9, 9, 9, 1, 0}, uint8(3), 1023, uint8(20))
	f.Add([]byte{}, uint8(0), -1, uint8(0))
	f.Fuzz(func(t *testing.T, b []byte, parts uint8, n int, high uint8) {
		var all []int
		for i := 0; i+1 < len(b); i += 2 {
			all = append(all, int(int8(b[i]))<<(int(b[i+1])%(1+int(high)%34)))
		}
		many := 2 + int(parts)%66
		var lists [][]int
		for i := range many {
			lists = append(lists, all[len(all)*i/many:len(all)*(i+1)/many])
		}
		for _, c := range calls() {
			for _, n := range []int{n, n & 1023, n & 7} {
				holdCall(t, c, lists, n)
			}
		}
	})
}
