package merkle_test

import (
	"bytes"
	"math"
	"slices"
	"testing"

	"cupel/api"
	"cupel/merkle"
)

// holds holds a tree to its leaves.
func holds(t *testing.T, x *merkle.Tree, l [][]byte) {
	t.Helper()
	if x.Len() != len(l) || x.Root() != wantRoot(l) {
		t.Fatalf("%d leaves: %d %x", len(l), x.Len(), x.Root())
	}
	for i, leaf := range l {
		if b, e := x.Get(i); e != api.OK || !bytes.Equal(b, leaf) {
			t.Fatalf("%d of %d: %x %d", i, len(l), b, int(e))
		}
		if p, e := x.Prove(i); e != api.OK || !slices.Equal(p, wantProof(i, l)) {
			t.Fatalf("%d of %d: %x %d", i, len(l), p, int(e))
		}
	}
}

// refuses holds a tree to an error at a place, and to nothing beside it.
func refuses(t *testing.T, x *merkle.Tree, want api.Errno, i int) {
	t.Helper()
	if b, e := x.Get(i); e != want || len(b) != 0 {
		t.Errorf("Get(%d): %x %d", i, b, int(e))
	}
	if e := x.Set(i, []byte("new")); e != want {
		t.Errorf("Set(%d): %d", i, int(e))
	}
	if p, e := x.Prove(i); e != want || len(p) != 0 {
		t.Errorf("Prove(%d): %x %d", i, p, int(e))
	}
}

func TestTree(t *testing.T) { // P3.2
	for _, n := range counts() {
		l := sample(n)
		holds(t, merkle.New(l...), l)
	}
}

func TestTreeOfNone(t *testing.T) { // P3.2
	x := merkle.New()
	for range 2 {
		if x == nil || x.Len() != 0 || x.Root() != merkle.Root() {
			t.Fatal(x.Len(), x.Root())
		}
		for _, i := range []int{0, 1, -1, math.MinInt, math.MaxInt} {
			refuses(t, x, api.ErrRange, i)
		}
	}
}

func TestTreeOfOne(t *testing.T) { // P3.2
	x := merkle.New([]byte("a"))
	holds(t, x, [][]byte{[]byte("a")})
	if p, e := x.Prove(0); e != api.OK || len(p) != 0 {
		t.Error(p, int(e))
	}
	if e := x.Set(0, []byte("b")); e != api.OK || x.Root() != merkle.Leaf([]byte("b")) {
		t.Error(int(e))
	}
	holds(t, x, [][]byte{[]byte("b")})
}

func TestTreeNil(t *testing.T) { // P3.2
	var x *merkle.Tree
	for range 2 {
		if x.Len() != 0 || x.Root() != merkle.Root() {
			t.Fatal(x.Len(), x.Root())
		}
		for _, i := range []int{0, 1, -1, math.MinInt, math.MaxInt} {
			refuses(t, x, api.ErrNil, i)
		}
	}
}

func TestTreeNoLeaf(t *testing.T) { // P3.2, R1
	for n := range 20 {
		l := sample(n)
		x := merkle.New(l...)
		for _, i := range noPlaces(n) {
			refuses(t, x, api.ErrRange, i)
		}
		holds(t, x, l)
	}
}

// TestSetEach turns each leaf in turn, to longer, shorter and empty ones; all the others stay.
func TestSetEach(t *testing.T) { // P3.2
	for n := 1; n < 40; n++ {
		l := sample(n)
		x := merkle.New(l...)
		for i := range n {
			l[i] = bytes.Repeat([]byte{byte(i), 7}, i%4)
			if e := x.Set(i, l[i]); e != api.OK {
				t.Fatal(n, i, int(e))
			}
			holds(t, x, l)
		}
	}
}

func TestSetAlone(t *testing.T) { // P3.2
	for n := 1; n < 40; n++ {
		for i := range n {
			l := sample(n)
			x := merkle.New(l...)
			first := x.Root()
			old := l[i]
			l[i] = []byte("another")
			x.Set(i, l[i])
			holds(t, x, l)
			x.Set(i, l[i])
			holds(t, x, l)
			x.Set(i, old)
			if x.Root() != first {
				t.Fatal(n, i, "not what it was")
			}
		}
	}
}

// TestSetOften turns leaves out of order, the last ones and the first more often than others.
func TestSetOften(t *testing.T) { // P3.2
	for _, n := range []int{2, 3, 7, 33, 100} {
		l := sample(n)
		x := merkle.New(l...)
		for k := range 200 {
			i := []int{0, n - 1, k * 37 % n, k * k % n}[k%4]
			l[i] = []byte{byte(k), byte(i)}
			if e := x.Set(i, l[i]); e != api.OK || x.Root() != wantRoot(l) {
				t.Fatal(n, k, i, int(e))
			}
		}
		holds(t, x, l)
	}
}

func TestTreeKeepsNoBytes(t *testing.T) { // R2
	for n := 1; n < 20; n++ {
		room, l := sample(n), sample(n)
		x := merkle.New(room...)
		for i := range room {
			clear(room[i])
			room[i] = []byte("another")
		}
		holds(t, x, l)
		leaf := []byte("set")
		x.Set(n/2, leaf)
		l[n/2] = []byte("set")
		clear(leaf)
		holds(t, x, l)
	}
}

func TestTreeGivesCopies(t *testing.T) { // R2
	for n := 1; n < 20; n++ {
		l := sample(n)
		x := merkle.New(l...)
		x.Set(0, l[0])
		for i := range n {
			b, _ := x.Get(i)
			again, _ := x.Get(i)
			p, _ := x.Prove(i)
			_ = append(b, 'x')
			_ = append(p, api.Digest{1})
			clear(b)
			clear(p)
			if !bytes.Equal(again, l[i]) {
				t.Fatal(n, i, "two answers share their bytes")
			}
		}
		holds(t, x, l)
	}
}

func TestSetLeavesItsBytes(t *testing.T) { // R2
	room := []byte("leaf and behind")
	x := merkle.New(sample(5)...)
	x.Set(2, room[:4])
	x.Set(2, []byte("XXXXXXXXXXXXXX"))
	x.Get(2)
	if string(room) != "leaf and behind" {
		t.Errorf("%q", room)
	}
}

func TestTreesSideBySide(t *testing.T) { // R3
	l := sample(9)
	one, other := merkle.New(l...), merkle.New(l...)
	turned := slices.Clone(l)
	turned[4] = []byte("another")
	p, _ := other.Prove(5)
	one.Set(4, turned[4])
	holds(t, one, turned)
	holds(t, other, l)
	if !slices.Equal(p, wantProof(5, l)) {
		t.Error("a proof that was told has turned")
	}
}

// TestTreeAnswersTurnNothing asks in another order, and again.
func TestTreeAnswersTurnNothing(t *testing.T) { // R3
	l := sample(13)
	x := merkle.New(l...)
	for i := range l {
		x.Prove(len(l) - 1 - i)
		x.Get(i)
		x.Root()
		merkle.Fold(13, i, nil, nil)
		refuses(t, x, api.ErrRange, 13+i)
		holds(t, x, l)
	}
}

func FuzzTree(f *testing.F) { // P3.2, P3.3
	f.Add(uint8(0), []byte(nil))
	f.Add(uint8(1), []byte{0, 1})
	f.Add(uint8(6), []byte{3, 2, 5, 0, 6, 1})
	f.Add(uint8(33), []byte{32, 9, 0, 8, 31, 7, 33, 6})
	f.Fuzz(func(t *testing.T, many uint8, turns []byte) {
		n := int(many % 80)
		l := sample(n)
		x := merkle.New(l...)
		for len(turns) > 1 {
			i, leaf := int(turns[0])%(n+2)-1, turns[1:2]
			turns = turns[2:]
			if i < 0 || i >= n {
				refuses(t, x, api.ErrRange, i)
				continue
			}
			p, _ := x.Prove(i)
			l[i] = bytes.Clone(leaf)
			d, folded := merkle.Fold(n, i, leaf, p)
			if e := x.Set(i, leaf); e != api.OK || folded != api.OK || d != x.Root() {
				t.Fatalf("%d of %d: %d %d", i, n, int(e), int(folded))
			}
		}
		holds(t, x, l)
	})
}
