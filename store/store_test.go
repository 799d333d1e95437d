package store_test

import (
	"bytes"
	"crypto/sha256"
	"encoding/hex"
	"math"
	"testing"

	"cupel/api"
	"cupel/store"
)

// someStores is rows of records: of none, of one, of many, of no bytes, of one, of many, and of the same ones.
func someStores() [][][]byte {
	return [][][]byte{
		{},
		texts(""),
		texts("a"),
		texts("a", "b"),
		texts("b", "a"),
		texts("", ""),
		texts("one", "", "three"),
		texts("a", "a", "a", "a"),
		texts("", "a", "", "", "aa", "\x00", "\x00\x00\x00\x00", "\xff\xff\xff\xff"),
		{long(1000), {}, long(255), long(256), long(257), long(65536)},
		// Records that are a store's bytes themselves.
		{bytesOf(texts("a", "b")...), bytesOf(texts("a")...), []byte("a")},
	}
}

// TestBytesKnown holds Bytes to what another program has worked out from the document.
func TestBytesKnown(t *testing.T) { // P16.1
	for _, c := range []struct {
		records [][]byte
		want    string
	}{
		{nil, ""},
		{texts("a"), "0000000161000000103b196fd4907bedf51c3090e9835f2f7c"},
		{texts("a", "b"), "0000000161000000103b196fd4907bedf51c3090e9835f2f7c000000016200000010aaad4a7754053ef7bd25ee7ea4f04455"},
		{texts(""), "0000000000000010af5570f5a1810b7af78caf4bc70a660f"},
		{texts("", ""), "0000000000000010af5570f5a1810b7af78caf4bc70a660f00000000000000108d0f6c197a3265979b55ac9c9e6d7461"},
		{texts("one", "", "three"), "000000036f6e6500000010615f69ed4e249a34955fc08be20fc3240000000000000010da5589b3d36579dfb09708be50a5d70e0000000574687265650000001019d01fb843b56f222b29a6852691568b"},
	} {
		s := of(t, c.records...)
		if b := s.Bytes(); hex.EncodeToString(b) != c.want {
			t.Errorf("%q: %x", c.records, b)
		}
		b, e := hex.DecodeString(c.want)
		if e != nil {
			t.Fatal(e)
		}
		recovers(t, b, 0, c.records...)
	}
}

// TestManyBytesKnown likewise, of bytes that are too many to stand here.
func TestManyBytesKnown(t *testing.T) { // P16.1
	var many [][]byte
	for i := range 1000 {
		many = append(many, bytes.Repeat([]byte{byte(i)}, i%37))
	}
	most := long(api.MaxText)
	for _, c := range []struct {
		records [][]byte
		want    string
	}{
		{many, "dca7028614e343789f7facf0b8b546d0561353e827d380c887e30924c2319a65"},
		{[][]byte{most}, "85bd2140768b62d9a66ceeff93b9c977cfc38afcad426a1570a0121ddaf4ec66"},
		{[][]byte{[]byte("a"), most, {}, most}, "884caf1427082e4722f10c0695710ca0ac7509ce833674c4e9f1dbd5c5c19ac9"},
	} {
		d := sha256.Sum256(of(t, c.records...).Bytes())
		if got := hex.EncodeToString(d[:]); got != c.want {
			t.Errorf("%d records: %s", len(c.records), got)
		}
	}
}

// TestStores holds all calls ahead of each record, and behind it.
func TestStores(t *testing.T) { // P16.1
	for _, records := range someStores() {
		s := store.New()
		holds(t, s)
		for i, r := range records {
			add(t, s, r)
			holds(t, s, records[:i+1]...)
		}
	}
}

// TestNewIsApart has a record of one store be none of another one.
func TestNewIsApart(t *testing.T) { // P16.1
	s, other := of(t, texts("a")...), store.New()
	holds(t, other)
	add(t, other, []byte("b"))
	holds(t, s, texts("a")...)
	holds(t, other, texts("b")...)
}

// TestAppendSizes has records up to the longest one, and longer ones, which are refused.
func TestAppendSizes(t *testing.T) { // P16.1, R1
	s := of(t, texts("a")...)
	records := texts("a")
	for _, n := range []int{api.MaxText + 1, api.MaxText - 1, api.MaxText, api.MaxText + 1, 0, api.MaxText + 2, 2 * api.MaxText, 1, 16 * api.MaxText} {
		r := long(n)
		want := api.OK
		if n > 1048576 {
			want = api.ErrSize
		} else {
			records = append(records, r)
		}
		if e := s.Append(r); e != want {
			t.Errorf("%d bytes: %d", n, int(e))
		}
		holds(t, s, records...)
	}
}

// TestSealHashes holds seals to what is hashed for them, which stands here in full.
func TestSealHashes(t *testing.T) { // P16.1
	b := of(t, texts("xyz", "w")...).Bytes()
	first := sha256.Sum256([]byte("\x00\x00\x00\x00" + "\x00\x00\x00\x03xyz"))
	second := sha256.Sum256([]byte("\x00\x00\x00\x10" + string(first[:16]) + "\x00\x00\x00\x01w"))
	want := "\x00\x00\x00\x03xyz" + "\x00\x00\x00\x10" + string(first[:16]) + "\x00\x00\x00\x01w" + "\x00\x00\x00\x10" + string(second[:16])
	if string(b) != want {
		t.Errorf("%q", b)
	}
}

// TestSealHangsOnAllAhead turns a byte of one record: no seal from that record on stays, and all seals ahead do.
func TestSealHangsOnAllAhead(t *testing.T) { // P16.1
	const many = 8
	var records [][]byte
	for i := range many {
		records = append(records, []byte{byte(i), 5, byte(i)})
	}
	seals := sealsIn(of(t, records...).Bytes(), 3)
	for turned := range many {
		other := append([][]byte{}, records...)
		other[turned] = []byte{byte(turned), 6, byte(turned)}
		for i, seal := range sealsIn(of(t, other...).Bytes(), 3) {
			if same := bytes.Equal(seal, seals[i]); same != (i < turned) {
				t.Errorf("record %d is turned, and seal %d is the same: %v", turned, i, same)
			}
		}
	}
	for i := range seals {
		for k := range i {
			if bytes.Equal(seals[i], seals[k]) {
				t.Errorf("seals %d and %d are the same", i, k)
			}
		}
	}
}

// sealsIn is the seals of a store of records of so many bytes.
func sealsIn(b []byte, size int) [][]byte {
	var l [][]byte
	for ; len(b) > 0; b = b[4+size+4+sealSize:] {
		l = append(l, b[4+size+4:4+size+4+sealSize])
	}
	return l
}

// TestGetPlaces asks for places of records, and for places beyond them.
func TestGetPlaces(t *testing.T) { // P16.1
	for _, many := range []int{0, 1, 2, 100} {
		s := store.New()
		for i := range many {
			add(t, s, []byte{byte(i)})
		}
		for i := -3; i < many+3; i++ {
			r, e := s.Get(i)
			if i < 0 || i >= many {
				if len(r) != 0 || e != api.ErrRange {
					t.Errorf("%d of %d: %q %d", i, many, r, int(e))
				}
				continue
			}
			if !bytes.Equal(r, []byte{byte(i)}) || e != api.OK {
				t.Errorf("%d of %d: %q %d", i, many, r, int(e))
			}
		}
		for _, i := range []int{math.MinInt, math.MinInt + 1, math.MaxInt - 1, math.MaxInt, 1 << 32, -1 << 32, 1<<32 + 1} {
			if r, e := s.Get(i); len(r) != 0 || e != api.ErrRange {
				t.Errorf("%d of %d: %q %d", i, many, r, int(e))
			}
		}
	}
}

// TestAllIsOfItsTime has All tell what there was when it was asked for, whatever comes then.
func TestAllIsOfItsTime(t *testing.T) { // P16.1
	s := store.New()
	var asked []func(func(int, []byte) bool)
	records := texts("a", "", "ccc", "a", "eeeee", "", "g")
	for i := range len(records) + 1 {
		asked = append(asked, s.All())
		for k, all := range asked {
			tells(t, all, records[:k]...)
		}
		if i < len(records) {
			add(t, s, records[i])
		}
	}
	if e := s.Append(make([]byte, api.MaxText+1)); e != api.ErrSize {
		t.Error(int(e))
	}
	for range 2 {
		for k, all := range asked {
			tells(t, all, records[:k]...)
		}
	}
}

// TestAllInTheMidst appends records while All goes over those that there were.
func TestAllInTheMidst(t *testing.T) { // P16.1
	s := of(t, texts("a", "b", "c")...)
	records := texts("a", "b", "c")
	n := 0
	for i, r := range s.All() {
		if i != n || !bytes.Equal(r, records[i]) {
			t.Fatalf("%d %q", i, r)
		}
		for range 3 {
			more := bytes.Repeat(r, 50*(i+1))
			add(t, s, more)
			records = append(records, more)
		}
		holds(t, s, records...)
		n++
	}
	if n != 3 || len(records) != 12 {
		t.Error(n, len(records))
	}
	holds(t, s, records...)
}

// TestAllIsLeft leaves All behind each number of records, goes over it within itself, and goes over it again.
func TestAllIsLeft(t *testing.T) { // P16.1, R2
	records := texts("a", "bb", "", "d")
	s := of(t, records...)
	all := s.All()
	for leave := range records {
		told := 0
		for i := range all {
			told++
			if i == leave {
				break
			}
		}
		if told != leave+1 {
			t.Errorf("left behind %d, and told %d", leave, told)
		}
		told = 0
		all(func(i int, r []byte) bool {
			told++
			return i < leave
		})
		if told != leave+1 {
			t.Errorf("left behind %d, and told %d", leave, told)
		}
		tells(t, all, records...)
	}
	for i := range all {
		tells(t, all, records...)
		if i == 1 {
			break
		}
	}
	holds(t, s, records...)
}
