package draw_test

import (
	"testing"

	"cupel/api"
	"cupel/draw"
)

// TestNumberTold has answers that another program has worked out.
func TestNumberTold(t *testing.T) { // P8.1
	for _, c := range []struct {
		seed     api.Digest
		count, n int
	}{
		{noughts, 0, 6595920773930630386}, {noughts, 1, 3443652221865180762}, {noughts, 255, 8051477800424155554}, {noughts, 256, 2068853482138214278},
		{noughts, 1 << 32, 4969149021708718023}, {noughts, 1<<32 + 1, 5014755361528831131}, {noughts, 1 << 62, 8939794577547873389}, {noughts, last - 1, 8396431831099106762}, {noughts, last, 2959516436562189578},
		{ones, 0, 9171151849082010721}, {ones, 1, 4568181088021240281}, {ones, 7, 1394074208533489300}, {ones, 1 << 62, 596400971127755723}, {ones, last - 1, 258009289541503846}, {ones, last, 4769589074165684918},
		{few, 0, 4511265110929556018}, {few, 1, 102639304365062512}, {few, 7, 8504153165012449889}, {few, 1 << 32, 1628294457697671195}, {few, last, 2522662941378630643},
		{api.Digest{31: 1}, 0, 6671633902768361367}, {api.Digest{31: 1}, 1, 4708462371882977856}, {api.Digest{31: 1}, last, 3295985326648566979},
	} {
		if n, e := draw.Number(c.seed, c.count); n != c.n || e != api.OK {
			t.Errorf("Number %d: %d %d, not %d", c.count, n, int(e), c.n)
		}
	}
}

func TestNumber(t *testing.T) { // P8.1
	for _, seed := range seeds() {
		for i := range 200 {
			for _, count := range []int{i, 1<<62 - 100 + i, last - i, 1 << (i % 63), 1<<(i%63) - 1} {
				n, e := draw.Number(seed, count)
				if n != wantNumber(seed, count) || n < 0 || e != api.OK {
					t.Fatalf("Number %d: %d %d", count, n, int(e))
				}
			}
		}
	}
}

// TestNumberBits has all of a number's bits 0 at times, and 1 at times; beyond them there is none.
func TestNumberBits(t *testing.T) { // P8.1
	set, unset := 0, 0
	for count := range 200 {
		n, _ := draw.Number(noughts, count)
		set |= n
		unset |= ^n
	}
	if set != last || unset != -1 {
		t.Errorf("%x %x", set, unset)
	}
}

func TestCountsThatMayNotBe(t *testing.T) { // P8.1, R1
	for _, seed := range seeds() {
		for _, count := range below0() {
			if n, e := draw.Number(seed, count); n != 0 || e != api.ErrRange {
				t.Errorf("Number %d: %d %d", count, n, int(e))
			}
			if s, e := draw.New(seed, count); s != nil || e != api.ErrRange {
				t.Errorf("New %d: %d", count, int(e))
			}
		}
	}
}

func TestNewStandsAtItsCount(t *testing.T) { // P8.1
	for _, count := range []int{0, 1, 7, 255, 1 << 31, 1 << 32, 1 << 62, last - 1, last} {
		s, e := draw.New(few, count)
		if e != api.OK || s.Count() != count || s.Count() != count {
			t.Errorf("New at %d: %d", count, int(e))
		}
	}
}

func TestNext(t *testing.T) { // P8.1
	for _, seed := range seeds() {
		for _, count := range []int{0, 1, 250, 1<<32 - 3, 1 << 62, last - 10} {
			b := bothOf(t, seed, count)
			for i := range 10 {
				n, _ := b.next()
				if x, _ := draw.Number(seed, count+i); x != n || b.s.Count() != count+i+1 {
					t.Fatalf("Next at %d: %d, not %d; then at %d", count+i, n, x, b.s.Count())
				}
			}
		}
	}
}

// TestTheEnd has streams that stand at the greatest count, or come there.
func TestTheEnd(t *testing.T) { // P8.1, P8.2
	for ahead := range 4 {
		b := bothOf(t, few, last-ahead)
		for range ahead {
			if _, e := b.next(); e != api.OK {
				t.Fatal(int(e))
			}
		}
		for range 3 {
			for i, ask := range []func() (int, api.Errno){
				b.next,
				func() (int, api.Errno) { return b.below(1) },
				func() (int, api.Errno) { return b.below(half) },
				func() (int, api.Errno) { return b.below(last) },
				func() (int, api.Errno) { return b.choose(1) },
				func() (int, api.Errno) { return b.choose(0, heaviest) },
				func() (int, api.Errno) { return b.pick([]int{3, 9, 9}, 2) },
				func() (int, api.Errno) { return b.pick([]int{3, 9, 9}, 3) },
			} {
				if n, e := ask(); n != 0 || e != api.ErrOver || b.s.Count() != last {
					t.Fatalf("%d: %d %d at %d", i, n, int(e), b.s.Count())
				}
			}
			if n, e := b.pick([]int{3, 9, 9}, 1); n != 1 || e != api.OK {
				t.Fatal(n, int(e))
			}
		}
	}
}

// TestErrorsAheadOfTheEnd has what is wrong told ahead of there being no number any more.
func TestErrorsAheadOfTheEnd(t *testing.T) { // P8.2, R1
	b := bothOf(t, few, last)
	for i, c := range []struct {
		ask func() (int, api.Errno)
		e   api.Errno
	}{
		{func() (int, api.Errno) { return b.below(0) }, api.ErrRange},
		{func() (int, api.Errno) { return b.choose() }, api.ErrSize},
		{func() (int, api.Errno) { return b.choose(-1) }, api.ErrRange},
		{func() (int, api.Errno) { return b.choose(0, 0) }, api.ErrNone},
		{func() (int, api.Errno) { return b.pick(nil, 1) }, api.ErrSize},
		{func() (int, api.Errno) { return b.pick([]int{1, 2}, 3) }, api.ErrRange},
	} {
		if n, e := c.ask(); n != 0 || e != c.e {
			t.Errorf("%d: %d %d, not %d", i, n, int(e), int(c.e))
		}
	}
}

func TestNilStream(t *testing.T) { // P8.2, R1
	var s *draw.Stream
	if s.Count() != 0 {
		t.Error(s.Count())
	}
	for i, ask := range []func() (int, api.Errno){
		s.Next,
		func() (int, api.Errno) { return s.Below(10) },
		func() (int, api.Errno) { return s.Below(0) },
		func() (int, api.Errno) { return s.Choose(1, 2) },
		func() (int, api.Errno) { return s.Choose() },
		func() (int, api.Errno) { return s.Choose(0) },
		func() (int, api.Errno) { return s.Choose(-1) },
		func() (int, api.Errno) { return s.Pick([]int{1, 9}, 1) },
		func() (int, api.Errno) { return s.Pick([]int{1, 9}, 2) },
		func() (int, api.Errno) { return s.Pick(nil, 0) },
		func() (int, api.Errno) { return s.Pick([]int{1}, 2) },
	} {
		if n, e := ask(); n != 0 || e != api.ErrNil {
			t.Errorf("%d: %d %d", i, n, int(e))
		}
	}
	if s.Count() != 0 {
		t.Error(s.Count())
	}
}
