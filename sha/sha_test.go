package sha_test

import (
	"bytes"
	"crypto/sha256"
	"encoding/hex"
	"strings"
	"testing"

	"cupel/api"
	"cupel/sha"
)

// edges are lengths about the places where filling up needs another block, or bytes fill blocks just so.
var edges = []int{0, 1, 2, 3, 4, 54, 55, 56, 57, 62, 63, 64, 65, 118, 119, 120, 121, 127, 128, 129, 183, 184, 191, 192, 193, 1000, 4095, 4096, 4097}

// sample is n bytes, no two blocks of them alike.
func sample(n int) []byte {
	b := make([]byte, n)
	x := uint32(n)*2654435761 + 1
	for i := range b {
		x = x*1664525 + 1013904223
		b[i] = byte(x >> 24)
	}
	return b
}

// want is the digest by the library's own hash.
func want(b []byte) api.Digest { return sha256.Sum256(b) }

func TestSumKnown(t *testing.T) { // P1.1
	for text, digits := range map[string]string{
		"":    "e3b0c44298fc1c149afbf4c8996fb92427ae41e4649b934ca495991b7852b855",
		"a":   "ca978112ca1bbdcafac231b39a23dc4da786eff8147c4e72b9807785afee48bb",
		"abc": "ba7816bf8f01cfea414140de5dae2223b00361a396177a9cb410ff61f20015ad",
		"abcdbcdecdefdefgefghfghighijhijkijkljklmklmnlmnomnopnopq":                                                         "248d6a61d20638b8e5c026930c3e6039a33ce45964ff2167f6ecedd419db06c1",
		"abcdefghbcdefghicdefghijdefghijkefghijklfghijklmghijklmnhijklmnoijklmnopjklmnopqklmnopqrlmnopqrsmnopqrstnopqrstu": "cf5b16a778af8380036ce59e7b0492370b249b11e8f07a51afac45037afee9d1",
		strings.Repeat("a", 1000000): "cdc76e5c9914fb9281a1c7e284d73e67f1809a48a497200e046d39ccc7112cd0",
	} {
		got := sha.Sum([]byte(text))
		if hex.EncodeToString(got[:]) != digits {
			t.Errorf("%d bytes: %x, want %s", len(text), got, digits)
		}
	}
}

func TestSumExamples(t *testing.T) { // P1.1, the chapter's examples
	if d := sha.Sum(nil); !bytes.Equal(d[:4], []byte{227, 176, 196, 66}) {
		t.Error("nothing:", d[:4])
	}
	if d := sha.Sum([]byte("abc")); !bytes.Equal(d[:4], []byte{186, 120, 22, 191}) {
		t.Error("abc:", d[:4])
	}
}

func TestSumNothing(t *testing.T) { // P1.1
	if sha.Sum(nil) != sha.Sum([]byte{}) || sha.Sum(nil) != want(nil) {
		t.Error("nil and empty bytes have other digests")
	}
}

func TestSumEveryLength(t *testing.T) { // P1.1
	for n := range 400 {
		if b := sample(n); sha.Sum(b) != want(b) {
			t.Errorf("%d bytes: %x", n, sha.Sum(b))
		}
	}
	for _, n := range edges {
		for _, x := range []byte{0, 1, 127, 128, 255} {
			if b := bytes.Repeat([]byte{x}, n); sha.Sum(b) != want(b) {
				t.Errorf("%d bytes %d: %x", n, x, sha.Sum(b))
			}
		}
	}
	if b := sample(api.MaxText); sha.Sum(b) != want(b) {
		t.Error("a text of greatest length")
	}
}

func TestSumSeesEachBit(t *testing.T) { // P1.1
	b := sample(130)
	seen := map[api.Digest]int{sha.Sum(b): -1}
	for i := range 8 * len(b) {
		b[i/8] ^= 1 << (i % 8)
		d := sha.Sum(b)
		if other, ok := seen[d]; ok {
			t.Errorf("bits %d and %d do not count", i, other)
		}
		seen[d] = i
		b[i/8] ^= 1 << (i % 8)
	}
}

func TestSumLeavesItsBytes(t *testing.T) { // R2
	for _, n := range edges {
		all := sample(n + 200)
		before := bytes.Clone(all)
		sha.Sum(all[:n])
		h := sha.New()
		h.Write(all[:n])
		h.Sum()
		if !bytes.Equal(all, before) {
			t.Errorf("%d bytes: written into, or behind them", n)
		}
	}
}

func TestHashTakesNothing(t *testing.T) { // P1.2
	h := sha.New()
	for range 3 {
		if h.Len() != 0 || h.Sum() != want(nil) {
			t.Fatal(h.Len(), h.Sum())
		}
		h.Write(nil)
		h.Write([]byte{})
	}
	h.Write([]byte("abc"))
	h.Write(nil)
	if h.Len() != 3 || h.Sum() != want([]byte("abc")) {
		t.Error(h.Len(), h.Sum())
	}
}

func TestHashNil(t *testing.T) { // P1.2
	var h *sha.Hash
	for range 2 {
		if h.Len() != 0 || h.Sum() != want(nil) {
			t.Fatal(h.Len(), h.Sum())
		}
		h.Write(nil)
		h.Write(sample(100))
	}
}

func TestHashOneWrite(t *testing.T) { // P1.2
	for n := range 300 {
		b := sample(n)
		h := sha.New()
		h.Write(b)
		if h.Len() != n || h.Sum() != want(b) {
			t.Errorf("%d bytes: %d %x", n, h.Len(), h.Sum())
		}
	}
}

func TestHashSumBetweenWrites(t *testing.T) { // P1.2
	for _, n := range edges {
		b := sample(n + 70)
		h := sha.New()
		h.Write(b[:n])
		for range 3 {
			if h.Sum() != want(b[:n]) || h.Len() != n {
				t.Fatalf("%d bytes: a Sum is not the same again", n)
			}
		}
		for i := n; i < len(b); i++ {
			h.Write(b[i : i+1])
			if h.Sum() != want(b[:i+1]) || h.Len() != i+1 {
				t.Fatalf("%d bytes and %d more: %x", n, i+1-n, h.Sum())
			}
		}
	}
}

func TestHashKeepsNoBytes(t *testing.T) { // P1.2, R2
	for _, n := range edges {
		b := sample(n)
		d := want(b)
		h := sha.New()
		h.Write(b)
		clear(b)
		if h.Sum() != d {
			t.Errorf("%d bytes: it still reads what was written", n)
		}
	}
}

func TestHashesSideBySide(t *testing.T) { // P1.2, R3
	one, other := sha.New(), sha.New()
	a, b := sample(150), sample(151)
	for i := range a {
		one.Write(a[i : i+1])
		other.Write(b[i : i+1])
		sha.Sum(b)
	}
	other.Write(b[150:])
	if one.Sum() != want(a) || other.Sum() != want(b) || one.Len() != 150 || other.Len() != 151 {
		t.Error("one hash counts in another one")
	}
	if sha.New().Sum() != want(nil) {
		t.Error("a new hash has taken something")
	}
}

func TestHashLongLength(t *testing.T) { // P1.2: so many bits that they need more than 32 bits
	if testing.Short() {
		t.Skip("half a gibibyte")
	}
	t.Parallel()
	piece := sample(api.MaxText)
	h, library := sha.New(), sha256.New()
	for range 512 {
		h.Write(piece)
		library.Write(piece)
	}
	d := h.Sum()
	if h.Len() != 512*api.MaxText || !bytes.Equal(d[:], library.Sum(nil)) {
		t.Errorf("%d bytes: %x", h.Len(), d)
	}
}

func TestPiecesDoNotCount(t *testing.T) { // P1.3
	b := sample(200)
	for first := range len(b) + 1 {
		for _, second := range edges {
			h := sha.New()
			end := min(first+second, len(b))
			h.Write(b[:first])
			h.Write(b[first:end])
			h.Write(b[end:])
			if h.Sum() != want(b) || h.Len() != len(b) {
				t.Fatalf("pieces of %d, %d and %d: %x", first, end-first, len(b)-end, h.Sum())
			}
		}
	}
}

func TestEvenPieces(t *testing.T) { // P1.3
	b := sample(1000)
	for size := 1; size <= 200; size++ {
		h := sha.New()
		for at := 0; at < len(b); at += size {
			h.Write(b[at:min(at+size, len(b))])
		}
		if h.Sum() != want(b) || h.Len() != len(b) {
			t.Fatalf("pieces of %d: %x", size, h.Sum())
		}
	}
}

func FuzzPieces(f *testing.F) { // P1.1, P1.3
	f.Add([]byte(nil), 0, 0)
	f.Add(sample(64), 1, 63)
	f.Add(sample(200), 64, 128)
	f.Fuzz(func(t *testing.T, b []byte, i, j int) {
		i, j = min(max(i, 0), len(b)), min(max(j, 0), len(b))
		i, j = min(i, j), max(i, j)
		h := sha.New()
		h.Write(b[:i])
		h.Write(b[i:j])
		h.Write(b[j:])
		if h.Sum() != want(b) || sha.Sum(b) != want(b) || h.Len() != len(b) {
			t.Error(b, i, j)
		}
	})
}
