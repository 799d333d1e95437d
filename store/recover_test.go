package store_test

import (
	"bytes"
	"crypto/sha256"
	"encoding/binary"
	"math/rand/v2"
	"slices"
	"testing"

	"cupel/api"
	"cupel/store"
)

// TestRecoverExample cuts the last byte off.
func TestRecoverExample(t *testing.T) { // P16.2
	b := of(t, texts("a", "b")...).Bytes()
	recovers(t, b[:len(b)-1], len(b)-1-25, texts("a")...)
}

// TestRecoverNothing has bytes that begin with no record: a store without records, to which some may be appended.
func TestRecoverNothing(t *testing.T) { // P16.2
	a := bytesOf(texts("a")...)
	for _, b := range [][]byte{nil, {}, {0}, {0, 0, 0}, {0, 0, 0, 0}, {0, 0, 0, 1}, {1, 2, 3, 4, 5}, make([]byte, 100), a[1:], a[4:], a[:24]} {
		s := recovers(t, b, len(b))
		add(t, s, texts("x", "y")...)
		holds(t, s, texts("x", "y")...)
	}
}

// TestRecoverFirstBytes has each number of the first bytes of a store's, behind which the others stand in memory: the store of what is whole goes on as the other one did.
func TestRecoverFirstBytes(t *testing.T) { // P16.2, P16.3, R2
	for _, records := range someStores() {
		b := of(t, records...).Bytes()
		for _, keep := range keeps(b, records) {
			many, behind := wholeOf(keep, records...)
			s := recovers(t, b[:keep], behind, records[:many]...)
			goesOn(t, s, records[many:], b)
		}
	}
}

// keeps is each number of the first bytes of a store's; of many bytes, those about the beginnings and ends of its pieces.
func keeps(b []byte, records [][]byte) []int {
	if len(b) <= 1000 {
		return rising(len(b) + 1)
	}
	near := []int{0}
	at := 0
	for _, r := range records {
		for _, size := range []int{4, len(r), 4, sealSize} {
			at += size
			near = append(near, at-1, at, at+1)
		}
	}
	slices.Sort(near)
	near = slices.Compact(near)
	return slices.DeleteFunc(near, func(n int) bool { return n < 0 || n > len(b) })
}

// rising is the numbers from 0 on.
func rising(many int) []int {
	l := make([]int, many)
	for i := range l {
		l[i] = i
	}
	return l
}

// goesOn appends what a store has not: it has the bytes of all then.
func goesOn(t *testing.T, s *store.Store, rest [][]byte, want []byte) {
	t.Helper()
	add(t, s, rest...)
	if b := s.Bytes(); !bytes.Equal(b, want) {
		t.Fatalf("it goes on to %q, not %q", b, want)
	}
}

// TestRecoverOfMore has bytes behind a store's: those that are no record, or another store's.
func TestRecoverOfMore(t *testing.T) { // P16.2, P16.3
	for _, records := range someStores() {
		b := bytesOf(records...)
		for _, more := range [][]byte{{0}, {0, 0, 0, 0}, {0, 0, 0, 0, 0, 0, 0, 16}, make([]byte, 24), []byte("more"), bytes.Repeat([]byte{255}, 40), make([]byte, 2*api.MaxText)} {
			recovers(t, slices.Concat(b, more), len(more), records...)
		}
		// A seal that is right for the first record is not for a later one.
		again := bytesOf(texts("z", "y")...)
		if len(records) > 0 {
			recovers(t, slices.Concat(b, again), len(again), records...)
		} else {
			recovers(t, slices.Concat(b, again), 0, texts("z", "y")...)
		}
	}
}

// TestRecoverTurned turns each byte of a store's alone, to all that it may be: the records ahead of it are left.
func TestRecoverTurned(t *testing.T) { // P16.2
	for _, records := range [][][]byte{texts("one", "", "three"), texts("a"), texts("", ""), texts("aa", "aa", "aa")} {
		b := bytesOf(records...)
		for i := range b {
			many, _ := wholeOf(i, records...)
			whole := len(bytesOf(records[:many]...))
			for by := 1; by < 256; by++ {
				turned := slices.Clone(b)
				turned[i] ^= byte(by)
				s, behind := store.Recover(turned)
				if s.Len() != many || behind != len(b)-whole || !bytes.Equal(s.Bytes(), b[:whole]) {
					t.Fatalf("%q: byte %d by %d: %d records, %d behind", records, i, by, s.Len(), behind)
				}
			}
			turned := slices.Clone(b)
			turned[i]++
			recovers(t, turned, len(b)-whole, records[:many]...)
		}
	}
}

// TestRecoverRecordsMoved leaves a record's bytes away, doubles them, or exchanges them with another one's.
func TestRecoverRecordsMoved(t *testing.T) { // P16.2
	for _, records := range [][][]byte{texts("a", "b", "c", "d"), texts("", "", "", ""), texts("a", "a", "a", "a"), texts("aaa", "", "bb", "")} {
		parts := written(records...)
		for i := range parts {
			away := slices.Concat(parts[:i], parts[i+1:])
			left := bytes.Join(away, nil)
			recovers(t, left, len(left)-len(bytesOf(records[:i]...)), records[:i]...)

			double := bytes.Join(slices.Insert(slices.Clone(parts), i+1, parts[i]), nil)
			recovers(t, double, len(double)-len(bytesOf(records[:i+1]...)), records[:i+1]...)

			for k := range i {
				exchanged := slices.Clone(parts)
				exchanged[i], exchanged[k] = parts[k], parts[i]
				b := bytes.Join(exchanged, nil)
				recovers(t, b, len(b)-len(bytesOf(records[:k]...)), records[:k]...)
			}
		}
	}
}

// TestRecoverRecordsExchanged exchanges the records of two seals, of which each stays where it is.
func TestRecoverRecordsExchanged(t *testing.T) { // P16.2
	b := bytesOf(texts("a", "b", "c")...)
	b[25+4], b[50+4] = 'c', 'b'
	recovers(t, b, 50, texts("a")...)
}

// TestRecoverLengths has lengths that go beyond the bytes there are.
func TestRecoverLengths(t *testing.T) { // P16.2, R1
	ahead := texts("ahead")
	b := bytesOf(ahead...)
	whole := bytesOf(texts("ahead", "abc")...)
	for _, n := range []uint32{1<<32 - 1, 1<<32 - 2, 1 << 31, 1<<31 - 1, 1 << 30, api.MaxText + 1, api.MaxText, api.MaxText - 1, 1 << 16, 1 << 24, 1 << 8, 0, 1, 2, 4, 5, 22, 23, 24, 27} {
		for _, of := range []int{0, 4 + 3} { // the record's length, and the seal's
			turned := slices.Clone(whole)
			binary.BigEndian.PutUint32(turned[len(b)+of:], n)
			recovers(t, turned, len(whole)-len(b), ahead...)
		}
		length := binary.BigEndian.AppendUint32(nil, n)
		recovers(t, slices.Concat(b, length), 4, ahead...)
		recovers(t, length, 4)
		recovers(t, slices.Concat(b, length, length), 8, ahead...)
		recovers(t, slices.Concat(length, make([]byte, 50)), 54)
	}
}

// TestRecoverSeals has seals that are shorter or longer than they may be, and right as far as they go.
func TestRecoverSeals(t *testing.T) { // P16.2
	for _, ahead := range [][][]byte{nil, texts("a")} {
		b := bytesOf(ahead...)
		var last []byte
		if len(b) > 0 {
			last = b[len(b)-sealSize:]
		}
		d := sha256.Sum256(joined(last, []byte("xyz")))
		full := d[:]
		for n := range len(full) + 1 {
			part := joined([]byte("xyz"), full[:n])
			want, behind := ahead, len(part)
			if n == sealSize {
				want, behind = append(slices.Clone(ahead), []byte("xyz")), 0
			}
			recovers(t, slices.Concat(b, part), behind, want...)
			recovers(t, slices.Concat(b, part, make([]byte, 40)), behind+40, want...)
		}
		// The other half of the digest, and the right seal of another one ahead, are none.
		for _, wrong := range [][]byte{full[sealSize:], sealed([]byte("no"), []byte("xyz")), sealed(make([]byte, sealSize), []byte("xyz")), make([]byte, sealSize)} {
			part := joined([]byte("xyz"), wrong)
			recovers(t, slices.Concat(b, part), len(part), ahead...)
		}
	}
}

// TestRecoverPieces has bytes whose pieces are one, or three.
func TestRecoverPieces(t *testing.T) { // P16.2
	first := texts("first")
	b := bytesOf(first...)
	seal := sealed(b[len(b)-sealSize:], []byte("xyz"))
	for _, l := range [][][]byte{
		{[]byte("xyz")},
		{seal},
		{slices.Concat([]byte("xyz"), seal)},
		{[]byte("xyz"), {}, seal},
		{{}, []byte("xyz"), seal},
		{[]byte("x"), []byte("yz"), seal},
		{[]byte("xyz"), seal[:8], seal[8:]},
		{seal, []byte("xyz")},
	} {
		part := joined(l...)
		recovers(t, slices.Concat(b, part), len(part), first...)
	}
	// A third piece that is empty is behind the record, which is whole.
	recovers(t, slices.Concat(b, joined([]byte("xyz"), seal, nil)), 4, texts("first", "xyz")...)
	// Bytes that have no lengths.
	recovers(t, slices.Concat(b, []byte("xyz"), seal), 3+sealSize, first...)
}

// TestRecoverLongest has a record that is as long as may be, and one of a byte more, whose seal is right.
func TestRecoverLongest(t *testing.T) { // P16.2
	for _, ahead := range [][][]byte{nil, texts("ahead")} {
		for _, n := range []int{api.MaxText - 1, api.MaxText, api.MaxText + 1, api.MaxText + 2, 2 * api.MaxText} {
			records := append(slices.Clone(ahead), long(n), []byte("behind"))
			b := bytesOf(records...)
			if n <= 1048576 {
				recovers(t, b, 0, records...)
				recovers(t, b[:len(b)-31], n+23, ahead...)
			} else {
				s := recovers(t, b, len(b)-len(bytesOf(ahead...)), ahead...)
				add(t, s, []byte("other"))
				holds(t, s, append(slices.Clone(ahead), []byte("other"))...)
			}
		}
	}
}

// TestRecoverDrawn has stores of records drawn at random, and each number of the first bytes of them, with others behind.
func TestRecoverDrawn(t *testing.T) { // P16.2, P16.3
	chance := rand.New(rand.NewPCG(1, 16))
	for range 60 {
		records := drawn(chance, 6, 12)
		b := of(t, records...).Bytes()
		for keep := range len(b) + 1 {
			many, behind := wholeOf(keep, records...)
			s := recovers(t, b[:keep], behind, records[:many]...)
			goesOn(t, s, records[many:], b)

			more := drawnBytes(chance, 1+chance.IntN(30))
			if keep < len(b) {
				more[0] = b[keep] ^ byte(1+chance.IntN(255))
			}
			s = recovers(t, slices.Concat(b[:keep], more), behind+len(more), records[:many]...)
			goesOn(t, s, records[many:], b)
		}
	}
}

// TestRecoverAnyBytes has bytes drawn at random: the store's, and those that are told to be behind them, are these.
func TestRecoverAnyBytes(t *testing.T) { // P16.3
	chance := rand.New(rand.NewPCG(2, 16))
	for range 3000 {
		b := slices.Concat(bytesOf(drawn(chance, 3, 5)...), drawnBytes(chance, chance.IntN(60)))
		for range chance.IntN(3) {
			if len(b) > 0 {
				b[chance.IntN(len(b))] = byte(chance.IntN(4))
			}
		}
		holdsBeginning(t, b)
	}
}

// holdsBeginning holds Recover of any bytes to them.
func holdsBeginning(t *testing.T, b []byte) {
	t.Helper()
	s, behind := store.Recover(b)
	if s == nil || behind < 0 || behind > len(b) || !bytes.Equal(s.Bytes(), b[:len(b)-behind]) {
		t.Fatalf("%q: %d behind", b, behind)
	}
	var records [][]byte
	for _, r := range s.All() {
		records = append(records, r)
	}
	holds(t, s, records...)
	recovers(t, s.Bytes(), 0, records...)
	if behind > 0 {
		noneBegins(t, s, b[len(b)-behind:])
	}
}

// noneBegins tells that no record's bytes are the first of these, whatever length it has.
func noneBegins(t *testing.T, s *store.Store, rest []byte) {
	t.Helper()
	var last []byte
	if b := s.Bytes(); len(b) > 0 {
		last = b[len(b)-sealSize:]
	}
	for n := range len(rest) {
		if n+4 > len(rest) {
			break
		}
		r := rest[4 : 4+n]
		if bytes.HasPrefix(rest, joined(r, sealed(last, r))) {
			t.Fatalf("%q: the first %d are a record's", rest, n)
		}
	}
}

// FuzzRecover has any bytes, and appends any record behind them.
func FuzzRecover(f *testing.F) { // P16.1, P16.2, P16.3, R1
	for _, records := range someStores()[:8] {
		f.Add(bytesOf(records...), []byte("next"))
		f.Add(append(bytesOf(records...), 0, 0, 0, 1, 2), []byte{})
	}
	f.Fuzz(func(t *testing.T, b, next []byte) {
		holdsBeginning(t, b)
		s, behind := store.Recover(b)
		many := s.Len()
		add(t, s, next)
		r, e := s.Get(many)
		if !bytes.Equal(r, next) || e != api.OK || s.Len() != many+1 {
			t.Fatalf("%q: %q %d", b, r, int(e))
		}
		back, none := store.Recover(s.Bytes())
		if none != 0 || back.Len() != many+1 || !bytes.Equal(back.Bytes()[:len(b)-behind], b[:len(b)-behind]) {
			t.Fatalf("%q: %d behind %d records", b, none, back.Len())
		}
	})
}
