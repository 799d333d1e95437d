package codec_test

import (
	"bytes"
	"encoding/binary"
	"slices"
	"testing"

	"cupel/api"
	"cupel/codec"
)

// row is pieces of texts.
func row(texts ...string) [][]byte {
	l := make([][]byte, len(texts))
	for i, s := range texts {
		l[i] = []byte(s)
	}
	return l
}

// filled is so many bytes that tell their places.
func filled(n int) []byte {
	b := make([]byte, n)
	for i := range b {
		b[i] = byte(7*i + i>>8 + 1)
	}
	return b
}

// same tells whether two rows have the same pieces; a nil piece is an empty one.
func same(a, b [][]byte) bool { return slices.EqualFunc(a, b, bytes.Equal) }

// readPieces reads pieces by the library, to hold Split against it.
func readPieces(b []byte) ([][]byte, bool) {
	var l [][]byte
	for len(b) > 0 {
		if len(b) < 4 {
			return nil, false
		}
		n := uint64(binary.BigEndian.Uint32(b))
		b = b[4:]
		if n > uint64(len(b)) {
			return nil, false
		}
		l = append(l, b[:n])
		b = b[n:]
	}
	return l, true
}

// refusePieces holds Split to its error, and to no pieces beside it.
func refusePieces(t *testing.T, b []byte) {
	t.Helper()
	if l, e := codec.Split(b); e != api.ErrForm || len(l) != 0 {
		t.Errorf("%q: %q %d", b, l, int(e))
	}
}

func TestJoinExample(t *testing.T) { // P2.1
	want := []byte{0, 0, 0, 1, 97, 0, 0, 0, 0}
	for _, l := range [][][]byte{row("a", ""), {[]byte("a"), nil}} {
		if b := codec.Join(l...); !bytes.Equal(b, want) {
			t.Error(b)
		}
	}
}

func TestJoinKnown(t *testing.T) { // P2.1
	for _, c := range []struct {
		l    [][]byte
		want string
	}{
		{nil, ""},
		{row(), ""},
		{row(""), "\x00\x00\x00\x00"},
		{[][]byte{nil}, "\x00\x00\x00\x00"},
		{row("", "", ""), "\x00\x00\x00\x00\x00\x00\x00\x00\x00\x00\x00\x00"},
		{row("abc"), "\x00\x00\x00\x03abc"},
		{row("", "abc"), "\x00\x00\x00\x00\x00\x00\x00\x03abc"},
		{row("ab", "c"), "\x00\x00\x00\x02ab\x00\x00\x00\x01c"},
		{row("\x00\x00\x00\x00"), "\x00\x00\x00\x04\x00\x00\x00\x00"},
		{row("\xff", "\x80\x00"), "\x00\x00\x00\x01\xff\x00\x00\x00\x02\x80\x00"},
	} {
		if b := codec.Join(c.l...); string(b) != c.want {
			t.Errorf("%q: %q", c.l, b)
		}
		if l, e := codec.Split([]byte(c.want)); e != api.OK || !same(l, c.l) {
			t.Errorf("%q: %q %d", c.want, l, int(e))
		}
	}
	if b := codec.Join(); len(b) != 0 {
		t.Error(b)
	}
}

// TestLengthBytes has pieces whose lengths fill each of the four bytes.
func TestLengthBytes(t *testing.T) { // P2.1
	for _, c := range []struct {
		n    int
		head string
	}{
		{127, "\x00\x00\x00\x7f"},
		{128, "\x00\x00\x00\x80"},
		{255, "\x00\x00\x00\xff"},
		{256, "\x00\x00\x01\x00"},
		{258, "\x00\x00\x01\x02"},
		{65535, "\x00\x00\xff\xff"},
		{65536, "\x00\x01\x00\x00"},
		{api.MaxText, "\x00\x10\x00\x00"},
		{1<<24 - 1, "\x00\xff\xff\xff"},
		{1<<24 + 1<<17 + 3<<8 + 5, "\x01\x02\x03\x05"},
	} {
		l := [][]byte{[]byte("ahead"), filled(c.n), []byte("behind")}
		b := codec.Join(l...)
		want := slices.Concat([]byte("\x00\x00\x00\x05ahead"), []byte(c.head), l[1], []byte("\x00\x00\x00\x06behind"))
		if !bytes.Equal(b, want) {
			t.Errorf("%d: %d bytes that begin with %q", c.n, len(b), b[:13])
		}
		if back, e := codec.Split(b); e != api.OK || !same(back, l) {
			t.Errorf("%d: %d pieces, %d", c.n, len(back), int(e))
		}
	}
}

func TestSplitNothing(t *testing.T) { // P2.1
	for _, b := range [][]byte{nil, {}} {
		if l, e := codec.Split(b); e != api.OK || len(l) != 0 {
			t.Error(l, int(e))
		}
	}
}

func TestSplitWrong(t *testing.T) { // P2.1
	for _, s := range []string{
		"\x00",
		"\x00\x00\x00",
		"abc",
		"\x00\x00\x00\x01",
		"\x00\x00\x00\x02a",
		"\x00\x00\x00\x01ab",
		"\x00\x00\x00\x00\x00",
		"\x00\x00\x00\x01a\x00\x00\x00",
		"\x00\x00\x00\x01a\x00\x00\x00\x01",
		"\x00\x00\x01\x00a",
		"\x00\x01\x00\x00a",
		"\x01\x00\x00\x00a",
		"\x01\x00\x00\x01a",
		"\x7f\xff\xff\xffa",
		"\x80\x00\x00\x00",
		"\x80\x00\x00\x01a",
		"\xff\xff\xff\xff",
		"\xff\xff\xff\xfeab",
		"\xff\xff\xff\xfc\x00\x00\x00\x00",
		"\x03\x00\x00\x00abc",
		"\x00\x00\x00\x01a\xff\xff\xff\xff",
	} {
		refusePieces(t, []byte(s))
	}
}

// TestSplitCut cuts joined bytes at every place: only where a piece ends they are pieces, those ahead.
func TestSplitCut(t *testing.T) { // P2.1
	l := row("one", "", "three\x00", "\x00\x00\x00\x01", "5")
	b := codec.Join(l...)
	ends := map[int]int{0: 0}
	for i := range l {
		ends[len(codec.Join(l[:i+1]...))] = i + 1
	}
	for n := range len(b) + 1 {
		many, whole := ends[n]
		if !whole {
			refusePieces(t, b[:n])
			continue
		}
		if back, e := codec.Split(b[:n]); e != api.OK || !same(back, l[:many]) {
			t.Errorf("%d: %q %d", n, back, int(e))
		}
	}
	for n := 1; n < 4; n++ {
		refusePieces(t, slices.Concat(b, make([]byte, n)))
	}
}

// TestSplitReadsNoFurther has a slice behind whose length the piece goes on.
func TestSplitReadsNoFurther(t *testing.T) { // P2.1, R3
	b := codec.Join([]byte("abcdef"))
	refusePieces(t, b[:7])
	refusePieces(t, b[:2])
}

// TestSplitManyPieces: pieces are taken off one behind the other, however many there are.
func TestSplitManyPieces(t *testing.T) { // P2.1
	b := make([]byte, 4*api.MaxText)
	l, e := codec.Split(b)
	if e != api.OK || len(l) != api.MaxText {
		t.Fatal(len(l), int(e))
	}
	for i, piece := range l {
		if len(piece) != 0 {
			t.Fatal(i, piece)
		}
	}
	if back := codec.Join(l...); !bytes.Equal(back, b) {
		t.Error(len(back))
	}
}

// rows is all rows of up to so many pieces of up to two of three bytes, such as lengths have too.
func rows(many int) [][][]byte {
	pieces := row("")
	for _, a := range []byte{0, 1, 2} {
		pieces = append(pieces, []byte{a})
		for _, b := range []byte{0, 1, 2} {
			pieces = append(pieces, []byte{a, b})
		}
	}
	all := [][][]byte{{}}
	last := all
	for range many {
		var longer [][][]byte
		for _, l := range last {
			for _, piece := range pieces {
				longer = append(longer, append(slices.Clone(l), piece))
			}
		}
		all = append(all, longer...)
		last = longer
	}
	return all
}

func TestPiecesThereAndBack(t *testing.T) { // P2.3
	seen := map[string]int{}
	all := rows(4)
	for i, l := range all {
		b := codec.Join(l...)
		if back, e := codec.Split(b); e != api.OK || !same(back, l) {
			t.Fatalf("%q: %q %d", l, back, int(e))
		}
		if first, there := seen[string(b)]; there {
			t.Fatalf("%q and %q: %q", all[first], l, b)
		}
		seen[string(b)] = i
	}
}

// TestRowsThatRunTogether has rows of the same bytes that are parted in other ways.
func TestRowsThatRunTogether(t *testing.T) { // P2.3
	rows := [][][]byte{
		row(), row(""), row("", ""), row("abc"), row("", "abc"), row("abc", ""), row("a", "bc"), row("ab", "c"), row("a", "b", "c"),
		row("abc", "abc"), row("abcabc"), row("cba"), row(string(codec.Join(row("abc")...))), row(string(codec.Join(row("a", "bc")...))),
	}
	for i, a := range rows {
		for j, b := range rows {
			if bytes.Equal(codec.Join(a...), codec.Join(b...)) != (i == j) {
				t.Errorf("%q %q", a, b)
			}
		}
	}
}

func TestJoinIsNested(t *testing.T) { // P2.3
	in := row("a", "", "bc")
	out := [][]byte{codec.Join(in...), codec.Numbers(1, -1), nil}
	back, e := codec.Split(codec.Join(out...))
	if e != api.OK || !same(back, out) {
		t.Fatal(back, int(e))
	}
	if l, e := codec.Split(back[0]); e != api.OK || !same(l, in) {
		t.Error(l, int(e))
	}
}

func TestJoinLeavesItsPieces(t *testing.T) { // R2
	room := filled(40)
	kept := slices.Clone(room)
	l := [][]byte{room[0:3], room[3:3], room[10:20]}
	b := codec.Join(l[:2]...)
	if !bytes.Equal(room, kept) || len(l[2]) != 10 {
		t.Fatal(room, l)
	}
	for i := range b {
		b[i] = 255
	}
	_ = append(b, 255, 255, 255)
	if !bytes.Equal(room, kept) {
		t.Error(room)
	}
	b = codec.Join(room)
	clear(room)
	if !bytes.Equal(b[4:], kept) {
		t.Error(b)
	}
}

func TestSplitLeavesItsBytes(t *testing.T) { // R2
	l := row("abc", "", "defg", "", "h")
	joined := codec.Join(l...)
	room := slices.Concat(joined, filled(30))
	kept := slices.Clone(room)
	back, e := codec.Split(room[:len(joined)])
	if e != api.OK || !bytes.Equal(room, kept) {
		t.Fatal(room, int(e))
	}
	clear(room)
	if !same(back, l) {
		t.Fatalf("%q", back)
	}
	copy(room, kept)
	again, _ := codec.Split(room[:len(joined)])
	for i, piece := range back {
		for j := range piece {
			piece[j] = 'x'
		}
		_ = append(piece[:cap(piece)], 'y')
		_ = append(piece, 'y', 'y', 'y', 'y', 'y', 'y')
		for j := i + 1; j < len(back); j++ {
			if !bytes.Equal(back[j], l[j]) {
				t.Errorf("%d %d: %q", i, j, back[j])
			}
		}
	}
	if !bytes.Equal(room, kept) || !same(again, l) {
		t.Errorf("%q %q", room, again)
	}
}

func FuzzSplit(f *testing.F) { // P2.1, P2.3
	for _, s := range []string{"", "\x00", "\x00\x00\x00\x00", "\x00\x00\x00\x01a\x00\x00\x00\x00", "\x00\x00\x00\x02a", "\xff\xff\xff\xffabc", "\x80\x00\x00\x00"} {
		f.Add([]byte(s))
	}
	f.Fuzz(func(t *testing.T, b []byte) {
		want, whole := readPieces(b)
		l, e := codec.Split(b)
		if !whole {
			refusePieces(t, b)
			return
		}
		if e != api.OK || !same(l, want) {
			t.Errorf("%q: %q %d", b, l, int(e))
		}
		if back := codec.Join(l...); !bytes.Equal(back, b) {
			t.Errorf("%q: %q", b, back)
		}
	})
}

func FuzzJoin(f *testing.F) { // P2.1, P2.3
	f.Add([]byte(""), []byte("a"), []byte("\x00\x00\x00\x01"))
	f.Fuzz(func(t *testing.T, x, y, z []byte) {
		b := codec.Join(x, y, z)
		want, whole := readPieces(b)
		if !whole || !same(want, [][]byte{x, y, z}) {
			t.Errorf("%q %q %q: %q", x, y, z, b)
		}
		if l, e := codec.Split(b); e != api.OK || !same(l, want) {
			t.Errorf("%q: %q %d", b, l, int(e))
		}
	})
}
