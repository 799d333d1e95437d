package draw_test

import (
	"slices"
	"sync"
	"testing"

	"cupel/api"
	"cupel/draw"
)

// kinds is how many kinds of calls there are.
const kinds = 6

// ask asks a call of one kind, by a number and by numbers.
func (b both) ask(kind, n int, v []int) {
	b.Helper()
	switch kind {
	case 0:
		b.next()
	case 1:
		b.below(n)
	case 2:
		b.choose(v...)
	case 3:
		b.pick(v, n)
	case 4:
		b.pick(v, 1+len(v)/2)
	case 5:
		b.below(1 + max(n, -n, 0)%1000)
	}
}

// TestAnyCalls asks calls of all kinds one behind the other, also such as have an error, of two streams of a seed side by side.
func TestAnyCalls(t *testing.T) { // P8.1, P8.2, R1, R3
	c := newChance(888)
	numbers := append(below0(), 0, 1, 2, 3, 10, 255, 1<<31, 1<<61+1, 1<<62, half, 3<<61, last-1, last)
	lists := [][]int{nil, {1}, {0}, {-1}, {0, 0}, {1, 0, 2}, {heaviest, 5}, {heaviest + 1}, {heaviest - 1, 7}, row(512, 9), row(513, 9), with(row(512, 0), 400, 3), rising(20), {-5, 7, 7}}
	for range 400 {
		count := c.IntN(1 << 40)
		if c.IntN(2) == 0 {
			count = last - c.IntN(20)
		}
		seed := seeds()[c.IntN(5)]
		a, b := bothOf(t, seed, count), bothOf(t, seed, count)
		for range 30 {
			kind, n, v := c.IntN(kinds), numbers[c.IntN(len(numbers))], lists[c.IntN(len(lists))]
			a.ask(kind, n, v)
			if c.IntN(3) > 0 {
				b.ask(c.IntN(kinds), n, v)
			}
		}
	}
}

// TestErrorsLeaveNoTrace has two streams of a seed, one of which is also asked what it can't answer.
func TestErrorsLeaveNoTrace(t *testing.T) { // P8.2, P8.3, R1
	a, b := bothOf(t, few, 0), bothOf(t, few, 0)
	for i := range 200 {
		b.below(-i)
		b.choose(row(i%3, 0)...)
		b.choose(-i, 1, -1)
		b.pick(row(i%3, 1<<31), 1)
		b.pick([]int{1, 2}, 3+i)
		n, e := a.below(1000)
		if m, wantE := b.below(1000); n != m || e != wantE || a.s.Count() != b.s.Count() {
			t.Fatal(n, m, int(e), int(wantE))
		}
	}
}

// TestStreamsGoEachForItself has many streams of few seeds, all at once in turns.
func TestStreamsGoEachForItself(t *testing.T) { // P8.3, R3
	var all []both
	for i := range 12 {
		all = append(all, bothOf(t, seeds()[i%5], i/7*100))
	}
	for turn := range 200 {
		for i, b := range all {
			b.ask((turn+i)%kinds, 1+turn*i, rising(1+(turn+i)%20))
		}
	}
}

// TestStandingAnywhere has what is drawn hang on the seed and the count alone, whatever was drawn ahead of it.
func TestStandingAnywhere(t *testing.T) { // P8.3
	b := bothOf(t, ones, 0)
	for i := range 300 {
		count := b.s.Count()
		fresh := bothOf(t, ones, count)
		var n, m int
		switch i % 4 {
		case 0:
			n, _ = b.next()
			m, _ = fresh.next()
		case 1:
			n, _ = b.below(half)
			m, _ = fresh.below(half)
		case 2:
			n, _ = b.choose(rising(100)...)
			m, _ = fresh.choose(rising(100)...)
		case 3:
			n, _ = b.pick(rising(100), 50)
			m, _ = fresh.pick(rising(100), 50)
		}
		if n != m || b.s.Count() != fresh.s.Count() {
			t.Fatalf("%d: %d, not %d", count, n, m)
		}
	}
}

// inRoom is numbers that stand with room behind them in a longer row; and that row.
func inRoom(v []int) (stood, room []int) {
	room = append(slices.Clone(v), row(9, 123456789)...)
	return room[:len(v)], room
}

func TestNothingIsWritten(t *testing.T) { // R2
	b := bothOf(t, few, 0)
	for _, v := range [][]int{{}, {1}, {3, 9, 9, 1}, {0, 0}, {1, -1}, {heaviest, 1}, row(512, 5), row(513, 5), rising(300)} {
		stood, room := inRoom(v)
		kept := slices.Clone(room)
		b.choose(stood...)
		for _, k := range []int{0, 1, 2, len(v), len(v) + 1} {
			b.pick(stood, k)
		}
		if !slices.Equal(room, kept) {
			t.Errorf("%d has been written into", v)
		}
	}
}

// TestNothingIsKept turns what was handed in, and asks again.
func TestNothingIsKept(t *testing.T) { // R2, R3
	b := bothOf(t, few, 0)
	v := []int{1, 2, 3, 4, 5}
	for i := range 200 {
		b.choose(v...)
		v[i%5] = i * 7 % 13
		b.pick(v, 3)
		v[(i+2)%5] = i * 5 % 11
	}
	seed := few
	s, _ := draw.New(seed, 0)
	seed[0] = 77
	if n, e := s.Next(); n != wantNumber(few, 0) || e != api.OK {
		t.Error(n, int(e))
	}
}

// TestSideBySide has streams asked at once, each in a place of its own.
func TestSideBySide(t *testing.T) { // R3
	var all sync.WaitGroup
	for i := range 8 {
		all.Go(func() {
			seed := seeds()[i%5]
			s, _ := draw.New(seed, 100*i)
			w := twin{seed, 100 * i}
			for turn := range 200 {
				n, e := s.Below(half)
				if want, wantE := w.below(half); n != want || e != wantE {
					t.Errorf("Below: %d %d", n, int(e))
				}
				n, e = s.Pick(rising(50), 1+turn%50)
				if want, wantE := w.pick(rising(50), 1+turn%50); n != want || e != wantE {
					t.Errorf("Pick: %d %d", n, int(e))
				}
				if n, e := draw.Number(seed, turn); n != wantNumber(seed, turn) || e != api.OK {
					t.Errorf("Number: %d %d", n, int(e))
				}
			}
		})
	}
	all.Wait()
}

func FuzzCalls(f *testing.F) { // P8.1, P8.2, R1
	f.Add([]byte{1, 2, 3}, 0, []byte{0, 1, 2, 3, 4, 5, 0, 1, 2, 3, 4, 5}, 10)
	f.Add([]byte{}, last, []byte{5, 4, 3, 2, 1, 0}, half)
	f.Add([]byte{255}, last-3, []byte{1, 1, 1, 1, 1}, last)
	f.Add([]byte{9, 9}, -1, []byte{1, 2}, -1)
	f.Fuzz(func(t *testing.T, start []byte, count int, turns []byte, n int) {
		var seed api.Digest
		copy(seed[:], start)
		if count < 0 {
			if _, e := draw.New(seed, count); e != api.ErrRange {
				t.Fatal(int(e))
			}
			return
		}
		b := bothOf(t, seed, count)
		for i, kind := range turns[:min(len(turns), 50)] {
			var v []int
			for _, x := range turns[i:] {
				v = append(v, int(int8(x))<<(n&31))
			}
			b.ask(int(kind)%kinds, n>>(i&63), v)
		}
	})
}
