package store_test

import (
	"bytes"
	"iter"
	"math"
	"math/rand/v2"
	"slices"
	"sync"
	"testing"

	"cupel/api"
	"cupel/store"
)

// scribble writes into all bytes that stand in a list, and into what room it has.
func scribble(b []byte) {
	b = b[:cap(b)]
	for i := range b {
		b[i] ^= 0x55
	}
}

// inRoom is bytes that stand with room behind them in longer ones; and those.
func inRoom(b []byte) (stood, room []byte) {
	room = slices.Concat(b, bytes.Repeat([]byte{9}, 40))
	return room[:len(b)], room
}

// TestNilStore asks a nil store for all.
func TestNilStore(t *testing.T) { // P16.1, R1, R2
	var s *store.Store
	for _, n := range []int{0, 1, api.MaxText, api.MaxText + 1} {
		if e := s.Append(make([]byte, n)); e != api.ErrNil {
			t.Errorf("Append of %d bytes: %d", n, int(e))
		}
	}
	if e := s.Append(nil); e != api.ErrNil {
		t.Error(int(e))
	}
	if n := s.Len(); n != 0 {
		t.Error(n)
	}
	for _, i := range []int{0, 1, -1, math.MinInt, math.MaxInt} {
		if r, e := s.Get(i); len(r) != 0 || e != api.ErrNil {
			t.Errorf("Get(%d): %q %d", i, r, int(e))
		}
	}
	tells(t, s.All())
	if b := s.Bytes(); len(b) != 0 {
		t.Errorf("%q", b)
	}
}

// TestNilRecord has nil be a record of no bytes.
func TestNilRecord(t *testing.T) { // P16.1
	s := of(t, nil, []byte{}, nil)
	holds(t, s, texts("", "", "")...)
	recovers(t, s.Bytes(), 0, texts("", "", "")...)
}

// TestErrorsTurnNothing has calls with errors between those without.
func TestErrorsTurnNothing(t *testing.T) { // R1
	s := store.New()
	var records [][]byte
	for _, r := range texts("a", "", "ccc") {
		all := s.All()
		for range 2 {
			if e := s.Append(make([]byte, api.MaxText+1)); e != api.ErrSize {
				t.Error(int(e))
			}
			for _, i := range []int{-1, len(records), math.MinInt, math.MaxInt} {
				if _, e := s.Get(i); e != api.ErrRange {
					t.Errorf("%d: %d", i, int(e))
				}
			}
			tells(t, all, records...)
			holds(t, s, records...)
		}
		add(t, s, r)
		records = append(records, r)
		holds(t, s, records...)
	}
}

// TestNothingIsWritten: neither what is handed in, nor what stands behind its length.
func TestNothingIsWritten(t *testing.T) { // R2
	s := store.New()
	for _, r := range slices.Concat(texts("a", "", "ccc"), [][]byte{long(api.MaxText), long(api.MaxText + 1)}) {
		stood, room := inRoom(r)
		before := slices.Clone(room)
		s.Append(stood)
		if !bytes.Equal(room, before) {
			t.Errorf("Append of %d bytes has written", len(r))
		}
	}
	for _, b := range [][]byte{nil, {0, 0}, s.Bytes(), bytesOf(texts("a", "b")...), bytesOf(texts("a", "b")...)[:40]} {
		stood, room := inRoom(b)
		before := slices.Clone(room)
		back, behind := store.Recover(stood)
		back.Append([]byte("behind"))
		if !bytes.Equal(room, before) {
			t.Errorf("Recover of %d bytes has written, with %d behind", len(b), behind)
		}
	}
}

// TestNothingIsKept has the caller write over what was handed in, behind the call.
func TestNothingIsKept(t *testing.T) { // R2
	records := texts("a", "", "ccc", "dd")
	s := store.New()
	for _, r := range records {
		own, _ := inRoom(r)
		add(t, s, own)
		scribble(own)
	}
	holds(t, s, records...)
	for _, more := range []string{"", "more"} {
		b, _ := inRoom(append(bytesOf(records...), more...))
		back, behind := store.Recover(b)
		all := back.All()
		scribble(b)
		if behind != len(more) {
			t.Error(behind)
		}
		tells(t, all, records...)
		holds(t, back, records...)
		goesOn(t, back, texts("e"), bytesOf(append(slices.Clone(records), []byte("e"))...))
	}
}

// TestAnswersAreTheCallers has the caller write over all that is told.
func TestAnswersAreTheCallers(t *testing.T) { // R2
	records := texts("a", "", "ccc", "dd")
	for _, s := range []*store.Store{of(t, records...), recovers(t, append(bytesOf(records...), 1), 1, records...)} {
		all := s.All()
		write := func() {
			for i := range records {
				r, _ := s.Get(i)
				scribble(r)
			}
			for _, r := range all {
				scribble(r)
			}
			for _, r := range s.All() {
				scribble(r)
			}
			scribble(s.Bytes())
		}
		write()
		holds(t, s, records...)
		tells(t, all, records...)
		add(t, s, []byte("e"))
		write()
		holds(t, s, append(slices.Clone(records), []byte("e"))...)
		tells(t, all, records...)
	}
}

// TestAnswersAreApart has two answers share no memory: what is written into one of them is not in the other.
func TestAnswersAreApart(t *testing.T) { // R2
	s := of(t, texts("abc", "de")...)
	told := func() [][]byte {
		r, _ := s.Get(0)
		l := [][]byte{s.Bytes(), r}
		for _, r := range s.All() {
			l = append(l, r)
		}
		return l
	}
	first, second := told(), told()
	for _, b := range first {
		scribble(b)
	}
	for i, want := range [][]byte{bytesOf(texts("abc", "de")...), []byte("abc"), []byte("abc"), []byte("de")} {
		if !bytes.Equal(second[i], want) {
			t.Errorf("answer %d: %q", i, second[i])
		}
	}
	// What was turned twice is as it was, and the same record in another answer is not.
	scribble(first[1])
	if string(first[1]) != "abc" || string(first[2]) == "abc" {
		t.Errorf("%q", first)
	}
}

// TestRecordsAreApart appends to a record that is told: it does not reach into what stands behind it.
func TestRecordsAreApart(t *testing.T) { // R2
	records := texts("abc", "", "de")
	s := of(t, records...)
	for i, r := range s.All() {
		_ = append(r, "zzzzzzzzzzzzzzzzzzzzzzzzzzzzzz"...)
		own, _ := s.Get(i)
		_ = append(own, "zzzzzzzzzzzzzzzzzzzzzzzzzzzzzz"...)
	}
	_ = append(s.Bytes(), "zz"...)
	holds(t, s, records...)
}

// TestAskedInAnyOrder asks a store again and again, in orders drawn at random, while it grows.
func TestAskedInAnyOrder(t *testing.T) { // R3
	chance := rand.New(rand.NewPCG(3, 16))
	s, records := store.New(), [][]byte(nil)
	type asked struct {
		all  iter.Seq2[int, []byte]
		many int
	}
	var l []asked
	for range 2000 {
		switch chance.IntN(6) {
		case 0:
			if r := drawnBytes(chance, chance.IntN(9)); len(records) < 40 {
				add(t, s, r)
				records = append(records, r)
			}
		case 1:
			l = append(l, asked{s.All(), len(records)})
		case 2:
			if len(l) > 0 {
				a := l[chance.IntN(len(l))]
				tells(t, a.all, records[:a.many]...)
			}
		case 3:
			if len(records) > 0 {
				i := chance.IntN(len(records))
				if r, e := s.Get(i); !bytes.Equal(r, records[i]) || e != api.OK {
					t.Fatalf("Get(%d): %q %d", i, r, int(e))
				}
			}
		case 4:
			s = recovers(t, s.Bytes(), 0, records...)
		default:
			holds(t, s, records...)
		}
	}
	if len(records) < 40 {
		t.Error(len(records))
	}
}

// TestSideBySide has stores of their own be used side by side, and one be read so.
func TestSideBySide(t *testing.T) { // R3
	records := texts("a", "", "ccc", "dd", "a")
	shared := of(t, records...)
	all, b := shared.All(), shared.Bytes()
	var group sync.WaitGroup
	for range 8 {
		group.Go(func() {
			s, behind := store.Recover(b)
			if behind != 0 || s.Append([]byte("next")) != api.OK {
				t.Error("no store")
				return
			}
			for _, r := range all {
				s.Append(r)
			}
			if got := shared.Bytes(); !bytes.Equal(got, b) || shared.Len() != len(records) {
				t.Errorf("%q", got)
			}
			want := bytesOf(slices.Concat(records, texts("next"), records)...)
			if got := s.Bytes(); !bytes.Equal(got, want) {
				t.Errorf("%q", got)
			}
		})
	}
	group.Wait()
	holds(t, shared, records...)
}
