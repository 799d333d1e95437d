package codec_test

import (
	"bytes"
	"encoding/binary"
	"math"
	"slices"
	"testing"

	"cupel/api"
	"cupel/codec"
)

// written is a number's bytes by the library.
func written(n int) []byte { return binary.BigEndian.AppendUint64(nil, uint64(n)) }

// edges is numbers at which a bit comes or goes, and their neighbours.
func edges() []int {
	l := []int{0, 258, 65537, -65537, 0x0123456789abcdef, -0x0123456789abcdef, math.MaxInt, math.MinInt}
	for k := range 64 {
		n := 1 << k
		l = append(l, n-1, n, n+1, -n-1, -n, -n+1)
	}
	return l
}

// refuseNumbers holds Ints to its error, and to no numbers beside it.
func refuseNumbers(t *testing.T, b []byte) {
	t.Helper()
	if l, e := codec.Ints(b); e != api.ErrForm || len(l) != 0 {
		t.Errorf("%q: %v %d", b, l, int(e))
	}
}

func TestNumbersExample(t *testing.T) { // P2.2
	if b := codec.Numbers(258); !bytes.Equal(b, []byte{0, 0, 0, 0, 0, 0, 1, 2}) {
		t.Error(b)
	}
}

func TestNumbersKnown(t *testing.T) { // P2.2
	for _, c := range []struct {
		n    int
		want string
	}{
		{0, "\x00\x00\x00\x00\x00\x00\x00\x00"},
		{1, "\x00\x00\x00\x00\x00\x00\x00\x01"},
		{255, "\x00\x00\x00\x00\x00\x00\x00\xff"},
		{256, "\x00\x00\x00\x00\x00\x00\x01\x00"},
		{0x0123456789abcdef, "\x01\x23\x45\x67\x89\xab\xcd\xef"},
		{1<<31 - 1, "\x00\x00\x00\x00\x7f\xff\xff\xff"},
		{1 << 31, "\x00\x00\x00\x00\x80\x00\x00\x00"},
		{1 << 32, "\x00\x00\x00\x01\x00\x00\x00\x00"},
		{-1 << 31, "\xff\xff\xff\xff\x80\x00\x00\x00"},
		{-1, "\xff\xff\xff\xff\xff\xff\xff\xff"},
		{-2, "\xff\xff\xff\xff\xff\xff\xff\xfe"},
		{-256, "\xff\xff\xff\xff\xff\xff\xff\x00"},
		{math.MaxInt, "\x7f\xff\xff\xff\xff\xff\xff\xff"},
		{math.MinInt, "\x80\x00\x00\x00\x00\x00\x00\x00"},
		{math.MinInt + 1, "\x80\x00\x00\x00\x00\x00\x00\x01"},
	} {
		if b := codec.Numbers(c.n); string(b) != c.want {
			t.Errorf("%d: %q", c.n, b)
		}
		if l, e := codec.Ints([]byte(c.want)); e != api.OK || !slices.Equal(l, []int{c.n}) {
			t.Errorf("%q: %v %d", c.want, l, int(e))
		}
	}
}

func TestNumbersEdges(t *testing.T) { // P2.2, P2.3
	all := edges()
	var want []byte
	for _, n := range all {
		if b := codec.Numbers(n); !bytes.Equal(b, written(n)) {
			t.Errorf("%d: %q", n, b)
		}
		want = append(want, written(n)...)
	}
	b := codec.Numbers(all...)
	if !bytes.Equal(b, want) {
		t.Errorf("%q", b)
	}
	if l, e := codec.Ints(b); e != api.OK || !slices.Equal(l, all) {
		t.Error(l, int(e))
	}
}

func TestNumbersNone(t *testing.T) { // P2.2
	if b := codec.Numbers(); len(b) != 0 {
		t.Error(b)
	}
	for _, b := range [][]byte{nil, {}} {
		if l, e := codec.Ints(b); e != api.OK || len(l) != 0 {
			t.Error(l, int(e))
		}
	}
}

func TestIntsWrongLength(t *testing.T) { // P2.2
	for n := range 100 {
		b := filled(n)
		if n%8 != 0 {
			refuseNumbers(t, b)
			continue
		}
		l, e := codec.Ints(b)
		if e != api.OK || len(l) != n/8 {
			t.Error(n, l, int(e))
		}
		if back := codec.Numbers(l...); !bytes.Equal(back, b) {
			t.Errorf("%d: %q", n, back)
		}
	}
	refuseNumbers(t, make([]byte, api.MaxText-1))
}

// TestIntsReadsNoFurther has a slice behind whose length the number goes on.
func TestIntsReadsNoFurther(t *testing.T) { // P2.2, R3
	b := codec.Numbers(1, 2, 3)
	refuseNumbers(t, b[:15])
	if l, e := codec.Ints(b[:16]); e != api.OK || !slices.Equal(l, []int{1, 2}) {
		t.Error(l, int(e))
	}
}

// TestIntsSeesEachBit turns each bit of a number's bytes.
func TestIntsSeesEachBit(t *testing.T) { // P2.2, P2.3
	right := codec.Numbers(5, 1<<40+77, -9)
	seen := map[[3]int]int{}
	for i := range 8 * len(right) {
		b := slices.Clone(right)
		b[i/8] ^= 128 >> (i % 8)
		l, e := codec.Ints(b)
		if e != api.OK || len(l) != 3 {
			t.Fatal(i, l, int(e))
		}
		if back := codec.Numbers(l...); !bytes.Equal(back, b) {
			t.Errorf("%d: %v %q", i, l, back)
		}
		seen[[3]int(l)]++
	}
	if len(seen) != 8*len(right) {
		t.Error(len(seen))
	}
}

func TestNumbersLeavesItsList(t *testing.T) { // R2
	room := []int{1, -2, 3, 4, 5}
	b := codec.Numbers(room[:2]...)
	if !slices.Equal(room, []int{1, -2, 3, 4, 5}) {
		t.Error(room)
	}
	clear(room)
	if !bytes.Equal(b, slices.Concat(written(1), written(-2))) {
		t.Error(b)
	}
	again := codec.Numbers(1, -2)
	clear(b)
	if !bytes.Equal(again, slices.Concat(written(1), written(-2))) {
		t.Error(again)
	}
}

func TestIntsLeavesItsBytes(t *testing.T) { // R2
	room := filled(48)
	kept := slices.Clone(room)
	l, e := codec.Ints(room[:16])
	if e != api.OK || !bytes.Equal(room, kept) {
		t.Fatal(room, int(e))
	}
	want := slices.Clone(l)
	_ = append(l, 1, 2, 3)
	if !bytes.Equal(room, kept) {
		t.Error(room)
	}
	clear(room)
	if !slices.Equal(l, want) {
		t.Error(l)
	}
}

func FuzzInts(f *testing.F) { // P2.2, P2.3
	f.Add([]byte(""))
	f.Add([]byte("12345678"))
	f.Add([]byte("123456789"))
	f.Fuzz(func(t *testing.T, b []byte) {
		if len(b)%8 != 0 {
			refuseNumbers(t, b)
			return
		}
		l, e := codec.Ints(b)
		if e != api.OK || len(l) != len(b)/8 {
			t.Fatalf("%q: %v %d", b, l, int(e))
		}
		for i, n := range l {
			if !bytes.Equal(written(n), b[8*i:8*i+8]) {
				t.Errorf("%q: %d", b, n)
			}
		}
		if back := codec.Numbers(l...); !bytes.Equal(back, b) {
			t.Errorf("%q: %q", b, back)
		}
	})
}

func FuzzNumbers(f *testing.F) { // P2.2, P2.3
	f.Add(0, 1, -1)
	f.Add(math.MaxInt, math.MinInt, 258)
	f.Fuzz(func(t *testing.T, x, y, z int) {
		b := codec.Numbers(x, y, z)
		if !bytes.Equal(b, slices.Concat(written(x), written(y), written(z))) {
			t.Errorf("%d %d %d: %q", x, y, z, b)
		}
		if l, e := codec.Ints(b); e != api.OK || !slices.Equal(l, []int{x, y, z}) {
			t.Errorf("%q: %v %d", b, l, int(e))
		}
	})
}
