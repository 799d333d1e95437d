package keytree_test

import (
	"bytes"
	"encoding/binary"
	"math"
	"slices"
	"testing"

	"cupel/api"
	"cupel/keytree"
	"cupel/lamport"
)

// some is signatures: of keys, of none, of numbers that no key has, with paths of lengths that no proof has.
func some(t *testing.T) []keytree.Signed {
	t.Helper()
	l := []keytree.Signed{{}, {Path: []api.Digest{}}, {Index: 1, Sig: someSig()}}
	for _, high := range heights() {
		x, _ := signedBy(t, sample(40), high, 1<<high-1, sample(41))
		l = append(l, x)
	}
	for _, i := range append(farNumbers(), 0, 1, 258, 63, 64) {
		l = append(l, keytree.Signed{Index: i, Sig: someSig(), Path: samples(2)})
	}
	for many := range 10 {
		l = append(l, keytree.Signed{Index: many, Sig: someSig(), Path: samples(many)})
	}
	return append(l, keytree.Signed{Index: -1, Sig: someSig(), Path: samples(1000)})
}

// pieces is bytes that are joined.
func pieces(l ...[]byte) []byte {
	var b []byte
	for _, piece := range l {
		b = append(binary.BigEndian.AppendUint32(b, uint32(len(piece))), piece...)
	}
	return b
}

// refuseDecode holds Decode to its error, and to nothing beside it.
func refuseDecode(t *testing.T, what string, b []byte) {
	t.Helper()
	if x, e := keytree.Decode(b); e != api.ErrForm || !isNothing(x) {
		t.Errorf("%s, %d bytes: %d", what, len(b), int(e))
	}
}

func TestEncodeKnown(t *testing.T) { // P5.1, P5.2
	for _, c := range []struct {
		seed, message api.Digest
		high, key     int
		size          int
		digits        string
	}{
		{noughts, noughts, 0, 0, 16404, "11a4afa222e987e51f16625be041b41af46df9b5f36a6de3cd8ba176e8b55b74"},
		{ones, ones, 0, 0, 16404, "51bad268baf62be588573ce80352bd6c7c12e094168ba7ad70e231d321c3e25b"},
		{noughts, ones, 1, 1, 16436, "68be58ec4d7cbb6ef3ed08ece6c0aa529aa0bc3df93af3869a7735900d052781"},
		{counted(), counted(), 1, 1, 16436, "ec78fb991e781d34551c7df79433a1ecbc382417297956d2d622bcb2818061a8"},
		{noughts, counted(), 6, 0, 16596, "d60d9d169a6743c11f11f9f57f49e7ac3f9ee79dc452a3cc953b077734e3b409"},
		{ones, noughts, 6, 63, 16596, "571a4604224a31359a299435baf0b56d9ec2840579c22fee1bd7592435a1e7f5"},
		{counted(), ones, 6, 63, 16596, "980c66c56b43097f463060d8e9321f444c1f74a93740e2c4ece0b09cd143bba0"},
	} {
		x, _ := signedBy(t, c.seed, c.high, c.key, c.message)
		b := x.Encode()
		if len(b) != c.size {
			t.Errorf("key %d, high by %d: %d bytes", c.key, c.high, len(b))
		}
		is(t, "bytes", hash(b), c.digits)
	}
}

func TestEncode(t *testing.T) { // P5.2
	for _, x := range some(t) {
		if b := x.Encode(); !bytes.Equal(b, wantEncode(x)) {
			t.Errorf("key %d, %d digests: %d bytes", x.Index, len(x.Path), len(b))
		}
	}
}

func TestDecodeOfEncode(t *testing.T) { // P5.2
	for _, x := range some(t) {
		b := wantEncode(x)
		back, e := keytree.Decode(b)
		if e != api.OK || !same(back, x) || !bytes.Equal(back.Encode(), b) {
			t.Errorf("key %d, %d digests: %d %d", x.Index, len(x.Path), back.Index, int(e))
		}
	}
}

// TestDecodeEachLength cuts bytes off at the end, and at the beginning.
func TestDecodeEachLength(t *testing.T) { // P5.2
	whole := wantEncode(keytree.Signed{Index: 1, Sig: someSig(), Path: samples(2)})
	refuseDecode(t, "nothing", nil)
	for n := range whole {
		refuseDecode(t, "the beginning", whole[:n])
		refuseDecode(t, "the end", whole[n+1:])
	}
	for _, n := range []int{1, 2, 3, 4, 5, 8, 31, 32, 33, 64} {
		refuseDecode(t, "noughts behind", append(slices.Clone(whole), make([]byte, n)...))
	}
	refuseDecode(t, "twice", append(slices.Clone(whole), whole...))
}

func TestDecodeWrongPieces(t *testing.T) { // P5.2
	index, sig, path := make([]byte, 8), make([]byte, sigSize), make([]byte, 64)
	if _, e := keytree.Decode(pieces(index, sig, path)); e != api.OK {
		t.Fatal(int(e))
	}
	for what, b := range map[string][]byte{
		"none":            pieces(),
		"one":             pieces(index),
		"two":             pieces(index, sig),
		"no number":       pieces(sig, path),
		"no signature":    pieces(index, path),
		"four":            pieces(index, sig, path, nil),
		"five":            pieces(index, sig, path, path, path),
		"one ahead":       pieces(nil, index, sig, path),
		"empty ones":      pieces(nil, nil, nil),
		"path first":      pieces(path, sig, index),
		"signature first": pieces(sig, index, path),
		"signature last":  pieces(index, path, sig),
		"not in pieces":   slices.Concat(index, sig, path),
		"in one piece":    pieces(slices.Concat(index, sig, path)),
		"joined again":    pieces(pieces(index, sig, path)),
		"path in pieces":  pieces(index, sig, pieces(path[:32], path[32:])),
		"two in one":      pieces(index, slices.Concat(sig, path)),
	} {
		refuseDecode(t, what, b)
	}
}

func TestDecodeWrongSizes(t *testing.T) { // P5.2
	index, sig, path := make([]byte, 8), make([]byte, sigSize), make([]byte, 64)
	for n := range 200 {
		b := make([]byte, n)
		if n != 8 {
			refuseDecode(t, "number", pieces(b, sig, path))
		}
		if n%32 != 0 {
			refuseDecode(t, "path", pieces(index, sig, b))
		} else if x, e := keytree.Decode(pieces(index, sig, b)); e != api.OK || len(x.Path) != n/32 {
			t.Errorf("a path of %d bytes: %d", n, int(e))
		}
		refuseDecode(t, "signature", pieces(index, b, path))
	}
	for _, n := range []int{sigSize / 2, sigSize - 32, sigSize - 1, sigSize + 1, sigSize + 32, 2 * sigSize} {
		refuseDecode(t, "signature", pieces(index, make([]byte, n), path))
	}
}

// TestDecodeWrongLengths has pieces whose lengths, as told, aren't there, however great.
func TestDecodeWrongLengths(t *testing.T) { // P5.2
	x := keytree.Signed{Index: 1, Sig: someSig(), Path: samples(1)}
	for _, at := range []int{0, 4 + 8, 4 + 8 + 4 + sigSize} {
		for _, n := range []uint32{0, 1, 7, 9, 31, 33, 64, sigSize - 1, sigSize + 1, 1 << 16, 1 << 31, math.MaxUint32} {
			b := wantEncode(x)
			binary.BigEndian.PutUint32(b[at:], n)
			refuseDecode(t, "a length", b)
		}
	}
}

// TestDecodeSeesEachByte: bytes that are not the same are not the same signature.
func TestDecodeSeesEachByte(t *testing.T) { // P5.2
	x := keytree.Signed{Index: 258, Sig: someSig(), Path: samples(3)}
	b := wantEncode(x)
	for at := range b {
		b[at] ^= 64
		if y, e := keytree.Decode(b); e == api.OK && (same(x, y) || !bytes.Equal(y.Encode(), b)) {
			t.Fatalf("byte %d does not count", at)
		}
		b[at] ^= 64
	}
}

func TestDecodeKeepsNoBytes(t *testing.T) { // R2
	x := keytree.Signed{Index: 5, Sig: someSig(), Path: samples(4)}
	all := append(wantEncode(x), bytes.Repeat([]byte{7}, 64)...)
	kept := bytes.Clone(all)
	b := all[:len(all)-64]
	back, e := keytree.Decode(b)
	_ = append(back.Path, ones)
	keytree.Decode(b[:len(b)-1])
	if !bytes.Equal(all, kept) {
		t.Error("written into, or behind")
	}
	clear(all)
	if e != api.OK || !same(back, x) {
		t.Error("it still reads what was handed in")
	}
}

func TestAnswersAreTheCallers(t *testing.T) { // R2, R3
	x := keytree.Signed{Index: 5, Sig: someSig(), Path: samples(4)}
	b, again := x.Encode(), x.Encode()
	_ = append(b, 1)
	one, _ := keytree.Decode(b)
	other, _ := keytree.Decode(b)
	clear(b)
	clear(one.Path)
	if !bytes.Equal(again, wantEncode(x)) || !same(other, x) || !slices.Equal(x.Path, samples(4)) {
		t.Error("two answers share their bytes, or the signature is another one")
	}
}

func FuzzDecode(f *testing.F) { // P5.2
	f.Add([]byte(nil), 0, 0)
	f.Add(wantEncode(keytree.Signed{}), 1, 1)
	f.Add(wantEncode(keytree.Signed{Index: -1, Sig: someSig(), Path: samples(2)}), -1, 6)
	f.Fuzz(func(t *testing.T, b []byte, index, many int) {
		x, e := keytree.Decode(b)
		if e == api.OK && (!bytes.Equal(x.Encode(), b) || !bytes.Equal(wantEncode(x), b)) {
			t.Errorf("%d bytes, not those that were", len(b))
		}
		if e != api.OK && (e != api.ErrForm || !isNothing(x)) {
			t.Errorf("%d bytes: %d", len(b), int(e))
		}
		var sig lamport.Sig
		copy(sig.Open[0][:], b)
		y := keytree.Signed{Index: index, Sig: sig, Path: samples(min(max(many, 0), 100))}
		back, e := keytree.Decode(y.Encode())
		if e != api.OK || !same(back, y) {
			t.Errorf("key %d, %d digests: %d", index, many, int(e))
		}
	})
}
