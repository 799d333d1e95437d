package merkle_test

import (
	"bytes"
	"encoding/hex"
	"math"
	"slices"
	"testing"

	"cupel/api"
	"cupel/merkle"
	"cupel/sha"
)

func TestLeaf(t *testing.T) { // P3.1
	for _, b := range append(sample(200), nil, []byte{}, []byte{0}, []byte{1}, []byte{2}, make([]byte, api.MaxText)) {
		if d := merkle.Leaf(b); d != wantLeaf(b) || d != sha.Sum(append([]byte{0}, b...)) {
			t.Errorf("%d bytes: %x", len(b), d)
		}
	}
}

func TestNode(t *testing.T) { // P3.1
	l := append(digests(10), api.Digest{}, api.Digest{1}, api.Digest{31: 255})
	for _, a := range l {
		for _, b := range l {
			if d := merkle.Node(a, b); d != wantNode(a, b) || d != sha.Sum(slices.Concat([]byte{1}, a[:], b[:])) {
				t.Errorf("%x %x: %x", a, b, d)
			}
		}
	}
}

func TestRootExample(t *testing.T) { // P3.1, the chapter's example
	a, b, c := []byte("a"), []byte("b"), []byte("c")
	ab := merkle.Node(merkle.Leaf(a), merkle.Leaf(b))
	if d := merkle.Root(a, b, c); d != merkle.Node(ab, merkle.Leaf(c)) {
		t.Errorf("%x", d)
	}
	if p, e := merkle.Prove(2, a, b, c); e != api.OK || !slices.Equal(p, []api.Digest{ab}) {
		t.Error(p, int(e))
	}
}

// TestRootKnown has the leaves by which trees of RFC 6962 are tried, whose leaves and nodes are these.
func TestRootKnown(t *testing.T) { // P3.1
	var l [][]byte
	for _, c := range []struct{ leaf, root string }{
		{"", "6e340b9cffb37a989ca544e6bb780a2c78901d3fb33738768511a30617afa01d"},
		{"00", "fac54203e7cc696cf0dfcb42c92a1d9dbaf70ad9e621f4bd8d98662f00e3c125"},
		{"10", "aeb6bcfe274b70a14fb067a5e5578264db0fa9b51af5e0ba159158f329e06e77"},
		{"2021", "d37ee418976dd95753c1c73862b9398fa2a2cf9b4ff0fdfe8b30cd95209614b7"},
		{"3031", "4e3bbb1f7b478dcfe71fb631631519a3bca12c9aefca1612bfce4c13a86264d4"},
		{"40414243", "76e67dadbcdf1e10e1b74ddc608abd2f98dfb16fbce75277b5232a127f2087ef"},
		{"5051525354555657", "ddb89be403809e325750d3d263cd78929c2942b7942a34b77e122c9594a74c8c"},
		{"606162636465666768696a6b6c6d6e6f", "5dc9da79a70659a9ad559cb701ded9a2ab9d823aad2f4960cfe370eff4604328"},
	} {
		leaf, err := hex.DecodeString(c.leaf)
		if err != nil {
			t.Fatal(err)
		}
		l = append(l, leaf)
		if s := sha.Hex(merkle.Root(l...)); s != c.root {
			t.Errorf("%d leaves: %s", len(l), s)
		}
		if s := sha.Hex(merkle.New(l...).Root()); s != c.root {
			t.Errorf("a tree of %d leaves: %s", len(l), s)
		}
	}
}

func TestRootOfNone(t *testing.T) { // P3.1
	want := sha.Sum([]byte{2})
	if merkle.Root() != want || merkle.Root([][]byte{}...) != want {
		t.Errorf("%x", merkle.Root())
	}
	if merkle.Root(nil, nil) == want || merkle.Root([]byte{}) == want {
		t.Error("an empty leaf is none")
	}
}

func TestRootOfOne(t *testing.T) { // P3.1
	for _, b := range append(sample(20), []byte{}, []byte{2}) {
		if d := merkle.Root(b); d != merkle.Leaf(b) {
			t.Errorf("%q: %x", b, d)
		}
	}
}

func TestRootOfMany(t *testing.T) { // P3.1
	for _, n := range append(counts(), 1000, 4095, 4096, 4097) {
		if l := sample(n); merkle.Root(l...) != wantRoot(l) {
			t.Errorf("%d leaves: %x", n, merkle.Root(l...))
		}
	}
}

// TestRootsThatRunTogether has rows of the same bytes that are parted in other ways, or stand in another order.
func TestRootsThatRunTogether(t *testing.T) { // P3.1
	a, b, c := []byte("a"), []byte("b"), []byte("c")
	da, db := merkle.Leaf(a), merkle.Leaf(b)
	seen := map[api.Digest]int{}
	for i, l := range [][][]byte{
		{}, {nil}, {nil, nil}, {nil, nil, nil}, {a}, {a, nil}, {nil, a}, {a, b}, {b, a}, {a, b, c}, {c, b, a}, {[]byte("ab"), c}, {a, []byte("bc")}, {[]byte("abc")},
		{a, a}, {a, a, a}, {a, a, a, a}, {a, b, a}, {a, b, b}, {a, b, c, c}, {a, b, c, nil},
		{slices.Concat(da[:], db[:])}, {slices.Concat([]byte{1}, da[:], db[:])}, {da[:], db[:]}, {da[:]}, {{0}}, {{1}}, {{2}},
	} {
		d := merkle.Root(l...)
		if other, there := seen[d]; there {
			t.Errorf("%d and %d: %x", i, other, d)
		}
		seen[d] = i
	}
}

func TestProve(t *testing.T) { // P3.1
	for _, n := range counts() {
		l := sample(n)
		for i := range n {
			if p, e := merkle.Prove(i, l...); e != api.OK || !slices.Equal(p, wantProof(i, l)) {
				t.Errorf("%d of %d: %x %d", i, n, p, int(e))
			}
		}
	}
}

func TestProveOfOne(t *testing.T) { // P3.1
	if p, e := merkle.Prove(0, []byte("a")); e != api.OK || len(p) != 0 {
		t.Error(p, int(e))
	}
}

func TestProveNoLeaf(t *testing.T) { // P3.1
	for n := range 20 {
		for _, i := range noPlaces(n) {
			if p, e := merkle.Prove(i, sample(n)...); e != api.ErrRange || len(p) != 0 {
				t.Errorf("%d of %d: %x %d", i, n, p, int(e))
			}
		}
	}
	if p, e := merkle.Prove(0); e != api.ErrRange || len(p) != 0 {
		t.Error(p, int(e))
	}
}

// TestFoldAnyDigests: it does not count whose digests stand beside the way.
func TestFoldAnyDigests(t *testing.T) { // P3.1
	for n := 1; n < 70; n++ {
		for i := range n {
			leaf, proof := []byte{byte(n), byte(i)}, digests(wantLen(n, i))
			if d, e := merkle.Fold(n, i, leaf, proof); e != api.OK || d != wantFold(n, i, leaf, proof) {
				t.Errorf("%d of %d: %x %d", i, n, d, int(e))
			}
		}
	}
}

func TestFoldNoLeaf(t *testing.T) { // P3.1
	for n := range 20 {
		for _, i := range noPlaces(n) {
			for many := range 7 {
				refuseFold(t, api.ErrRange, n, i, []byte("a"), digests(many))
			}
		}
	}
	for _, n := range []int{0, -1, -2, -5, math.MinInt, math.MinInt + 1} {
		for _, i := range []int{0, 1, -1, -2, -6, math.MinInt, math.MaxInt} {
			refuseFold(t, api.ErrRange, n, i, nil, nil)
			refuseFold(t, api.ErrRange, n, i, nil, digests(1))
		}
	}
	refuseFold(t, api.ErrRange, math.MaxInt, math.MaxInt, nil, digests(63))
}

func TestFoldWrongLength(t *testing.T) { // P3.1
	for n := 1; n < 40; n++ {
		for i := range n {
			for many := range 10 {
				if many != wantLen(n, i) {
					refuseFold(t, api.ErrProof, n, i, []byte("a"), digests(many))
				}
			}
		}
	}
	refuseFold(t, api.ErrProof, 1, 0, nil, digests(1))
	refuseFold(t, api.ErrProof, 2, 0, nil, nil)
	refuseFold(t, api.ErrProof, 2, 0, nil, digests(1000))
}

// TestFoldFar has numbers of leaves that no memory has: the way is told by n and i alone.
func TestFoldFar(t *testing.T) { // P3.1
	var all []int
	for _, k := range []int{20, 31, 32, 33, 40, 61, 62} {
		all = append(all, 1<<k-1, 1<<k, 1<<k+1, 1<<k+1<<(k/2)+3)
	}
	for _, n := range append(all, math.MaxInt, math.MaxInt-1, math.MaxInt/3) {
		for _, i := range []int{0, 1, 2, n / 3, n / 2, n - 3, n - 2, n - 1, split(n) - 1, split(n), min(split(n)+1, n-1)} {
			many := wantLen(n, i)
			proof := digests(many + 1)
			if d, e := merkle.Fold(n, i, []byte("a"), proof[:many]); e != api.OK || d != wantFold(n, i, []byte("a"), proof[:many]) {
				t.Errorf("%d of %d: %x %d", i, n, d, int(e))
			}
			refuseFold(t, api.ErrProof, n, i, []byte("a"), proof)
			if many > 0 {
				refuseFold(t, api.ErrProof, n, i, []byte("a"), proof[:many-1])
			}
		}
	}
}

func TestFoldOfProof(t *testing.T) { // P3.3
	for _, n := range counts() {
		l := sample(n)
		root := merkle.Root(l...)
		for i := range n {
			p, _ := merkle.Prove(i, l...)
			if d, e := merkle.Fold(n, i, l[i], p); e != api.OK || d != root {
				t.Errorf("%d of %d: %x %d", i, n, d, int(e))
			}
		}
	}
}

func TestFoldOfAnotherLeaf(t *testing.T) { // P3.3
	for n := 1; n < 40; n++ {
		for i := range n {
			l := sample(n)
			p, _ := merkle.Prove(i, l...)
			for _, leaf := range [][]byte{nil, []byte("another"), append(bytes.Clone(l[i]), 0), l[n-1-i]} {
				turned := slices.Clone(l)
				turned[i] = leaf
				x := merkle.New(l...)
				if e := x.Set(i, leaf); e != api.OK {
					t.Fatal(n, i, int(e))
				}
				d, e := merkle.Fold(n, i, leaf, p)
				if e != api.OK || d != merkle.Root(turned...) || d != x.Root() {
					t.Errorf("%d of %d: %x %d", i, n, d, int(e))
				}
			}
		}
	}
}

// TestFoldIsTheRootOfItsLeafAlone lays other leaves in its place, such as have the bytes of nodes among them, with the digests that there are in a tree.
func TestFoldIsTheRootOfItsLeafAlone(t *testing.T) { // P3.3
	for n := 1; n < 12; n++ {
		l := sample(n)
		root := merkle.Root(l...)
		var inside []api.Digest
		for i := range n {
			p, _ := merkle.Prove(i, l...)
			inside = append(append(inside, p...), merkle.Leaf(l[i]))
		}
		others := append(copied(l), nil, root[:], append([]byte{0}, l[0]...))
		for k, a := range inside {
			b := inside[(k+1)%len(inside)]
			others = append(others, a[:], slices.Concat(a[:], b[:]), slices.Concat([]byte{1}, a[:], b[:]))
		}
		for i := range n {
			p, _ := merkle.Prove(i, l...)
			for _, leaf := range others {
				for k := range inside {
					if bytes.Equal(leaf, l[i]) {
						continue
					}
					proof := slices.Concat(inside[k:], inside[:k], p, p)[:len(p)]
					if d, e := merkle.Fold(n, i, leaf, proof); e != api.OK || d == root {
						t.Fatalf("%d of %d, leaf %x: %d", i, n, leaf, int(e))
					}
				}
				if d, e := merkle.Fold(n, i, leaf, p); e != api.OK || (d == root) != bytes.Equal(leaf, l[i]) {
					t.Fatalf("%d of %d, leaf %x: %d", i, n, leaf, int(e))
				}
			}
		}
	}
}

// TestFoldSeesEachDigest: none of a proof's digests can be another one, and none can stand elsewhere.
func TestFoldSeesEachDigest(t *testing.T) { // P3.1
	for n := 1; n < 20; n++ {
		l := sample(n)
		root := merkle.Root(l...)
		for i := range n {
			p, _ := merkle.Prove(i, l...)
			for k := range p {
				other := slices.Clone(p)
				other[k][31] ^= 1
				if d, e := merkle.Fold(n, i, l[i], other); e != api.OK || d == root {
					t.Errorf("%d of %d, digest %d: %d", i, n, k, int(e))
				}
				other = slices.Clone(p)
				other[k], other[0] = other[0], other[k]
				if d, e := merkle.Fold(n, i, l[i], other); e != api.OK || (d == root) != (k == 0) {
					t.Errorf("%d of %d, digest %d: %d", i, n, k, int(e))
				}
			}
		}
	}
}

func TestLeavesAreLeftAlone(t *testing.T) { // R2
	for n := range 20 {
		room := sample(n + 5)
		for i := range room {
			room[i] = append(room[i], 'x', 'y')[:len(room[i])]
		}
		kept := copied(room)
		l := room[:n]
		merkle.Root(l...)
		merkle.New(l...).Root()
		for i := range n {
			proof := digests(wantLen(n, i) + 3)
			merkle.Prove(i, l...)
			merkle.Fold(n, i, l[i], proof[:len(proof)-3])
			merkle.Fold(n, i, l[i], proof)
			if !slices.Equal(proof, digests(len(proof))) {
				t.Fatal(n, i, "the proof is another one")
			}
			merkle.Leaf(l[i])
		}
		if !same(room, kept) {
			t.Fatal(n, "the leaves are other ones")
		}
		for i := range room {
			if b := room[i][:len(room[i])+2]; string(b[len(b)-2:]) != "xy" {
				t.Fatal(n, i, "written behind a leaf")
			}
		}
	}
}

func TestProofsAreTheCallers(t *testing.T) { // R2, R3
	l := sample(11)
	for i := range l {
		want := wantProof(i, l)
		p, _ := merkle.Prove(i, l...)
		_ = append(p, api.Digest{})
		clear(p)
		if again, e := merkle.Prove(i, l...); e != api.OK || !slices.Equal(again, want) {
			t.Error(i, again, int(e))
		}
	}
}

func FuzzFold(f *testing.F) { // P3.1
	f.Add(0, 0, []byte(nil), 0)
	f.Add(1, 0, []byte("a"), 0)
	f.Add(5, 4, []byte("a"), 1)
	f.Add(1<<40, 1<<39, []byte("a"), 40)
	f.Add(math.MaxInt, math.MaxInt-1, []byte("a"), 61)
	f.Fuzz(func(t *testing.T, n, i int, leaf []byte, many int) {
		proof := digests(min(max(many, 0), 100))
		switch {
		case i < 0 || i >= n:
			refuseFold(t, api.ErrRange, n, i, leaf, proof)
			return
		case len(proof) != wantLen(n, i):
			refuseFold(t, api.ErrProof, n, i, leaf, proof)
		}
		proof = digests(wantLen(n, i))
		if d, e := merkle.Fold(n, i, leaf, proof); e != api.OK || d != wantFold(n, i, leaf, proof) {
			t.Errorf("%d of %d: %x %d", i, n, d, int(e))
		}
	})
}
