package keytree_test

import (
	"slices"
	"testing"

	"cupel/api"
	"cupel/keytree"
	"cupel/lamport"
)

// answers holds Check to an error, and x to what it was.
func answers(t *testing.T, want api.Errno, root api.Digest, high int, message api.Digest, x keytree.Signed) {
	t.Helper()
	kept := clone(x)
	if e := keytree.Check(root, high, message, x); e != want {
		t.Errorf("key %d, high by %d, %d digests: %d, want %d", x.Index, high, len(x.Path), int(e), int(want))
	}
	if !same(x, kept) {
		t.Error("the signature has turned")
	}
}

// heights is the trees by which checks are tried: high by 0, by 1, by some, and by 6.
func heights() []int { return []int{0, 1, 3, maxHigh} }

// ends is the keys that a tree begins and ends with.
func ends(high int) []int {
	l := []int{0, 1, 1<<high/2 - 1, 1 << high / 2, 1<<high - 1}
	l = slices.DeleteFunc(l, func(i int) bool { return i < 0 || i >= 1<<high })
	slices.Sort(l)
	return slices.Compact(l)
}

func TestCheckRight(t *testing.T) { // P5.2
	for _, high := range heights() {
		for _, i := range ends(high) {
			for _, message := range messages() {
				x, root := signedBy(t, sample(20), high, i, message)
				answers(t, api.OK, root, high, message, x)
			}
		}
	}
}

// TestCheckAnySignature: it does not count who made a signature, only where it leads.
func TestCheckAnySignature(t *testing.T) { // P5.2
	for _, sig := range []lamport.Sig{{}, someSig()} {
		for _, high := range heights() {
			for i := range 1 << high {
				x := keytree.Signed{Index: i, Sig: sig, Path: samples(high)}
				root := wantFold(i, lamport.Key(ones, sig), x.Path)
				answers(t, api.OK, root, high, ones, x)
				answers(t, api.ErrSign, sample(i), high, ones, x)
			}
		}
	}
	answers(t, api.ErrSign, noughts, 0, noughts, keytree.Signed{})
}

func TestCheckHeight(t *testing.T) { // P5.2
	x, root := signedBy(t, sample(21), 1, 0, ones)
	for _, high := range append(farNumbers(), 7, 8, 32, 62, 63, 64) {
		answers(t, api.ErrRange, root, high, ones, x)
		answers(t, api.ErrRange, root, high, ones, keytree.Signed{})
		if 0 < high && high < 100 {
			answers(t, api.ErrRange, root, high, ones, keytree.Signed{Path: samples(high)})
		}
	}
}

func TestCheckNoKey(t *testing.T) { // P5.2
	for _, high := range heights() {
		x, root := signedBy(t, sample(22), high, 0, ones)
		for _, i := range append(farNumbers(), 1<<high, 1<<high+1, 2<<high) {
			x.Index = i
			answers(t, api.ErrRange, root, high, ones, x)
		}
	}
}

func TestCheckPathOfAnotherLength(t *testing.T) { // P5.2
	for _, high := range heights() {
		for _, i := range ends(high) {
			x, root := signedBy(t, sample(23), high, i, ones)
			all := append(slices.Clone(x.Path), samples(70)...)
			for many := range all {
				if many != high {
					x.Path = all[:many]
					answers(t, api.ErrProof, root, high, ones, x)
				}
			}
			x.Path = nil
			if high > 0 {
				answers(t, api.ErrProof, root, high, ones, x)
			}
		}
	}
}

// TestCheckHeightOfAnother has what is right of one tree, asked for of a higher one, and of a lower one.
func TestCheckHeightOfAnother(t *testing.T) { // P5.2
	for _, high := range heights() {
		for _, i := range ends(high) {
			x, root := signedBy(t, sample(24), high, i, ones)
			for other := range maxHigh + 1 {
				switch {
				case i >= 1<<other:
					answers(t, api.ErrRange, root, other, ones, x)
				case other != high:
					answers(t, api.ErrProof, root, other, ones, x)
				}
			}
		}
	}
}

func TestCheckFirstErrorIsTold(t *testing.T) { // R1
	x, root := signedBy(t, sample(25), 2, 3, ones)
	short := clone(x)
	short.Path = short.Path[:1]
	answers(t, api.ErrProof, noughts, 2, noughts, short)
	answers(t, api.ErrSign, noughts, 2, noughts, x)
	short.Index = 4
	answers(t, api.ErrRange, noughts, 2, noughts, short)
	answers(t, api.ErrRange, root, -1, ones, x)
	answers(t, api.ErrRange, root, 7, noughts, short)
}

func TestCheckAnotherRoot(t *testing.T) { // P5.2
	for _, high := range heights() {
		x, root := signedBy(t, sample(26), high, 1<<high-1, ones)
		for at := range root {
			other := root
			other[at] ^= 1
			answers(t, api.ErrSign, other, high, ones, x)
		}
		key := lamport.Key(ones, x.Sig)
		for _, other := range append(samples(3), noughts, ones, key, signer(t, sample(27), high).Root()) {
			answers(t, api.ErrSign, other, high, ones, x)
		}
	}
}

func TestCheckAnotherMessage(t *testing.T) { // P5.2
	for _, high := range []int{0, 2} {
		for _, message := range []api.Digest{noughts, ones, sample(28)} {
			x, root := signedBy(t, sample(29), high, 1<<high-1, message)
			for place := range 256 {
				other := message
				other[place/8] ^= 128 >> (place % 8)
				answers(t, api.ErrSign, root, high, other, x)
			}
		}
	}
}

func TestCheckAnotherSignature(t *testing.T) { // P5.2
	message := sample(30)
	x, root := signedBy(t, sample(31), 2, 1, message)
	for place := range 256 {
		for _, d := range []*api.Digest{&x.Sig.Open[place], &x.Sig.Rest[place]} {
			at := place % 32
			d[at] ^= 1
			answers(t, api.ErrSign, root, 2, message, x)
			d[at] ^= 1
		}
	}
	answers(t, api.OK, root, 2, message, x)
	x.Sig.Open, x.Sig.Rest = x.Sig.Rest, x.Sig.Open
	answers(t, api.ErrSign, root, 2, message, x)
	x.Sig = lamport.Sig{}
	answers(t, api.ErrSign, root, 2, message, x)
}

// TestCheckAnotherKey: a signature of one key is not that of another one of the same tree, nor is its path.
func TestCheckAnotherKey(t *testing.T) { // P5.2
	const high = 3
	s := signer(t, sample(32), high)
	var all []keytree.Signed
	for range 1 << high {
		all = append(all, sign(t, s, ones))
	}
	for i, x := range all {
		for j, y := range all {
			want := api.ErrSign
			if i == j {
				want = api.OK
			}
			answers(t, want, s.Root(), high, ones, keytree.Signed{Index: j, Sig: x.Sig, Path: x.Path})
			answers(t, want, s.Root(), high, ones, keytree.Signed{Index: i, Sig: x.Sig, Path: y.Path})
			answers(t, want, s.Root(), high, ones, keytree.Signed{Index: i, Sig: y.Sig, Path: x.Path})
		}
	}
}

func TestCheckAnotherPath(t *testing.T) { // P5.2
	for _, high := range heights() {
		for _, i := range ends(high) {
			x, root := signedBy(t, sample(33), high, i, ones)
			for k := range x.Path {
				for _, at := range []int{0, 31} {
					other := clone(x)
					other.Path[k][at] ^= 128
					answers(t, api.ErrSign, root, high, ones, other)
				}
				other := clone(x)
				other.Path[k], other.Path[0] = other.Path[0], other.Path[k]
				if k > 0 {
					answers(t, api.ErrSign, root, high, ones, other)
				}
			}
		}
	}
}

// TestCheckWritesBehindNoPath has room behind the path's length.
func TestCheckWritesBehindNoPath(t *testing.T) { // R2
	x, root := signedBy(t, sample(34), 2, 2, ones)
	room := append(slices.Clone(x.Path), samples(4)...)
	kept := slices.Clone(room)
	for many := range room {
		x.Path = room[:many]
		keytree.Check(root, 2, ones, x)
		x.Encode()
		if !slices.Equal(room, kept) {
			t.Fatalf("%d digests: written into, or behind them", many)
		}
	}
}
