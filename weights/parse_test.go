package weights_test

import (
	"bytes"
	"encoding/binary"
	"fmt"
	"math"
	"slices"
	"strings"
	"testing"

	"cupel/api"
	"cupel/bpe"
	"cupel/weights"
)

// refuseParse holds Parse to an error, and to nothing beside it.
func refuseParse(t *testing.T, what string, b []byte, e api.Errno) {
	t.Helper()
	if w, is := weights.Parse(b); !isNothing(w) || is != e {
		t.Errorf("%s, %d bytes: %d, not %d", what, len(b), int(is), int(e))
	}
	if _, want := wantParse(b); want != e {
		t.Errorf("%s, %d bytes: %d is wanted, and %d", what, len(b), int(e), int(want))
	}
}

// parses holds Parse of bytes to a model, and Encode of that to the bytes.
func parses(t *testing.T, what string, b []byte, want weights.Weights) {
	t.Helper()
	w, e := weights.Parse(b)
	if e != api.OK || !same(w, want) {
		t.Fatalf("%s, %d bytes: %d", what, len(b), int(e))
	}
	back, e := weights.Encode(w)
	if e != api.OK || !bytes.Equal(back, b) {
		t.Errorf("%s, %d bytes: %d bytes of it, %d", what, len(b), len(back), int(e))
	}
}

// with is leaves of which the i-th is another one.
func with(l [][]byte, i int, leaf []byte) [][]byte {
	l = slices.Clone(l)
	l[i] = leaf
	return l
}

func TestParseOfEncode(t *testing.T) { // P10.3, P10.4
	for _, w := range append(some(), model(greatest, 11)) {
		b, e := weights.Encode(w)
		if e != api.OK {
			t.Fatal(int(e))
		}
		parses(t, fmt.Sprint(w.Config), b, w)
		parses(t, fmt.Sprint(w.Config), wantEncode(w), w)
	}
}

func TestParseNothing(t *testing.T) { // P10.3
	for _, b := range [][]byte{nil, {}, joined(nil), joined(nil, nil), make([]byte, 400), joined(make([][]byte, 22)...)} {
		refuseParse(t, "nothing", b, api.ErrForm)
	}
}

func TestParseNoPieces(t *testing.T) { // P10.3
	whole := wantEncode(model(small, 12))
	for n := 1; n < 10; n++ {
		refuseParse(t, "bytes behind", append(slices.Clone(whole), make([]byte, n)...), api.ErrForm)
		refuseParse(t, "bytes ahead", append(make([]byte, n), whole...), api.ErrForm)
	}
	refuseParse(t, "twice", append(slices.Clone(whole), whole...), api.ErrForm)
	refuseParse(t, "joined again", joined(whole), api.ErrForm)
	refuseParse(t, "not joined", slices.Concat(wantLeaves(model(small, 12))...), api.ErrForm)
	refuseParse(t, "text", []byte("a model"), api.ErrForm)
	at := 0
	for _, leaf := range wantLeaves(model(small, 12)) {
		for _, n := range []uint32{0, 1, uint32(len(leaf)) - 1, uint32(len(leaf)) + 1, uint32(len(leaf)) + 4, 1 << 24, 1 << 31, math.MaxUint32} {
			b := slices.Clone(whole)
			binary.BigEndian.PutUint32(b[at:], n)
			refuseParse(t, "a length", b, api.ErrForm)
		}
		at += 4 + len(leaf)
	}
}

// TestParseCut cuts bytes off at the end, and at the beginning.
func TestParseCut(t *testing.T) { // P10.3
	for _, c := range []weights.Config{least, small, middle} {
		whole := wantEncode(model(c, 13))
		for n := range whole {
			refuseParse(t, "the beginning", whole[:n], api.ErrForm)
			refuseParse(t, "the end", whole[n+1:], api.ErrForm)
		}
	}
}

// TestParseLeavesMissing has each leaf be left out, doubled, and be a whole piece more.
func TestParseLeavesMissing(t *testing.T) { // P10.3
	for _, c := range []weights.Config{least, small, middle} {
		l := wantLeaves(model(c, 14))
		for i := range l {
			refuseParse(t, "one fewer", joined(slices.Delete(slices.Clone(l), i, i+1)...), api.ErrForm)
			refuseParse(t, "one twice", joined(slices.Insert(slices.Clone(l), i, l[i])...), api.ErrForm)
			refuseParse(t, "an empty one", joined(slices.Insert(slices.Clone(l), i, nil)...), api.ErrForm)
			refuseParse(t, "up to one", joined(l[:i]...), api.ErrForm)
		}
		refuseParse(t, "an empty one behind", joined(append(slices.Clone(l), nil)...), api.ErrForm)
		refuseParse(t, "one more behind", joined(append(slices.Clone(l), l[len(l)-1])...), api.ErrForm)
		refuseParse(t, "without a row of each matrix", joined(l[:len(l)-c.Vocab]...), api.ErrForm)
	}
}

// TestParseOtherSizes has the first leaf tell sizes that may be, but are not those of the leaves.
func TestParseOtherSizes(t *testing.T) { // P10.3
	w := model(middle, 15)
	l := wantLeaves(w)
	for i, s := range sizesOf(&weights.Config{}) {
		for n := s.least; n <= s.most; n++ {
			x := w
			*sizesOf(&x.Config)[i].n = n
			switch {
			case wantConfig(x.Config) == api.OK && (x.Config == w.Config || i == 2 || i == 4):
				// Of Heads and Ctx no leaf hangs but the first one.
				parses(t, fmt.Sprint(x.Config), joined(with(l, 0, head(x))...), x)
			default:
				refuseParse(t, fmt.Sprint(x.Config), joined(with(l, 0, head(x))...), api.ErrForm)
			}
		}
	}
}

// TestParseSizesThatMayNotBe has the leaves be as many as such sizes would have.
func TestParseSizesThatMayNotBe(t *testing.T) { // P10.3
	for _, c := range []weights.Config{
		{}, {Vocab: 3, Dim: 3, Heads: 1, Layers: 1, Ctx: 4, Hidden: 1}, {Vocab: 3, Dim: 2, Heads: 2, Layers: 1, Ctx: 4, Hidden: 1}, {Vocab: 3, Dim: 2, Heads: 0, Layers: 1, Ctx: 4, Hidden: 1}, {Vocab: 3, Dim: 18, Heads: 9, Layers: 1, Ctx: 4, Hidden: 1},
		{Vocab: 3, Dim: 2, Heads: 1, Layers: 0, Ctx: 4, Hidden: 1}, {Vocab: 3, Dim: 2, Heads: 1, Layers: 5, Ctx: 4, Hidden: 1}, {Vocab: 3, Dim: 2, Heads: 1, Layers: 1, Ctx: 0, Hidden: 1}, {Vocab: 3, Dim: 2, Heads: 1, Layers: 1, Ctx: 65, Hidden: 1},
		{Vocab: 3, Dim: 2, Heads: 1, Layers: 1, Ctx: 4, Hidden: 0}, {Vocab: 3, Dim: 2, Heads: 1, Layers: 1, Ctx: 4, Hidden: 65}, {Vocab: 0, Dim: 2, Heads: 1, Layers: 1, Ctx: 4, Hidden: 1}, {Vocab: 513, Dim: 2, Heads: 1, Layers: 1, Ctx: 4, Hidden: 1}, {Vocab: 3, Dim: 66, Heads: 1, Layers: 1, Ctx: 4, Hidden: 1},
	} {
		refuseParse(t, fmt.Sprint(c), joined(wantLeaves(counted(c, "ab", []bpe.Pair{{A: 0, B: 1}}, func(i int) int { return i % 9 }))...), api.ErrForm)
	}
	l := wantLeaves(model(middle, 16))
	for i, s := range sizesOf(&weights.Config{}) {
		for _, n := range append(farNumbers(), s.least-1, s.most+1) {
			w := model(middle, 16)
			*sizesOf(&w.Config)[i].n = n
			if n < s.least || n > s.most {
				refuseParse(t, fmt.Sprint(w.Config), joined(with(l, 0, head(w))...), api.ErrForm)
			}
		}
	}
}

func TestParseFirstLeaf(t *testing.T) { // P10.3
	w := model(small, 17)
	l := wantLeaves(w)
	sizes, alphabet, pairs := written(3, 2, 1, 1, 4, 1), w.Alphabet, written(0, 0)
	parses(t, "right", joined(with(l, 0, joined(sizes, alphabet, pairs))...), w)
	for what, leaf := range map[string][]byte{
		"nothing":                   nil,
		"no pieces":                 slices.Concat(sizes, alphabet, pairs),
		"one piece":                 joined(sizes),
		"two pieces":                joined(sizes, alphabet),
		"no alphabet":               joined(sizes, pairs),
		"no sizes":                  joined(alphabet, pairs),
		"four pieces":               joined(sizes, alphabet, pairs, nil),
		"four, an empty one first":  joined(nil, sizes, alphabet, pairs),
		"five":                      joined(sizes, alphabet, pairs, pairs, pairs),
		"pairs ahead":               joined(sizes, pairs, alphabet),
		"alphabet ahead":            joined(alphabet, sizes, pairs),
		"back to front":             joined(pairs, alphabet, sizes),
		"three empty ones":          joined(nil, nil, nil),
		"no sizes in their piece":   joined(nil, alphabet, pairs),
		"joined again":              joined(joined(sizes, alphabet, pairs)),
		"five sizes":                joined(written(3, 2, 1, 1, 4), alphabet, pairs),
		"seven sizes":               joined(written(3, 2, 1, 1, 4, 1, 1), alphabet, pairs),
		"twelve sizes":              joined(append(slices.Clone(sizes), sizes...), alphabet, pairs),
		"one size":                  joined(written(3), alphabet, pairs),
		"sizes, cut":                joined(sizes[:47], alphabet, pairs),
		"sizes, a byte more":        joined(append(slices.Clone(sizes), 0), alphabet, pairs),
		"half a pair":               joined(sizes, alphabet, written(0)),
		"one pair and half a one":   joined(sizes, alphabet, written(0, 0, 1)),
		"two pairs and half a one":  joined(sizes, alphabet, written(0, 0, 1, 1, 0)),
		"pairs, cut":                joined(sizes, alphabet, pairs[:15]),
		"pairs, a byte more":        joined(sizes, alphabet, append(slices.Clone(pairs), 0)),
		"a byte":                    joined(sizes, alphabet, []byte{0}),
		"a byte behind the leaf":    append(joined(sizes, alphabet, pairs), 0),
		"leaf, cut":                 joined(sizes, alphabet, pairs)[1:],
		"half a pair, of no tokens": joined(sizes, []byte("aa"), written(9)),
	} {
		refuseParse(t, what, joined(with(l, 0, leaf)...), api.ErrForm)
		refuseParse(t, what+", alone", joined(leaf), api.ErrForm)
	}
}

// TestParseTokens has the first leaf tell tokens that the model's check refuses, or does not.
func TestParseTokens(t *testing.T) { // P10.3
	l := wantLeaves(model(middle, 18))
	for what, x := range wrongTokens() {
		w := model(middle, 18)
		x.turn(&w)
		refuseParse(t, what, joined(with(l, 0, head(w))...), x.e)
	}
	for what, x := range map[string]struct {
		alphabet string
		pairs    []bpe.Pair
		e        api.Errno
	}{
		"one fewer":      {"abcd", []bpe.Pair{{A: 0, B: 1}, {A: 1, B: 0}}, api.ErrSize},
		"one more":       {"abcdefgh", nil, api.ErrSize},
		"none":           {"", nil, api.ErrSize},
		"a pair, no one": {"", []bpe.Pair{{A: 0, B: 0}}, api.ErrSize},
		"many":           {strings.Repeat("a", 5000), make([]bpe.Pair, 5000), api.ErrSize},
	} {
		refuseParse(t, what, joined(with(l, 0, head(weights.Weights{Config: middle, Alphabet: []byte(x.alphabet), Pairs: x.pairs}))...), x.e)
	}
	w := model(middle, 18)
	w.Alphabet, w.Pairs = []byte("\x00\xff\x80abc-"), nil
	parses(t, "bytes alone", joined(with(l, 0, head(w))...), w)
}

// TestParseLeavesOfOtherLengths has each leaf behind the first one be no numbers, or not as many.
func TestParseLeavesOfOtherLengths(t *testing.T) { // P10.3
	for _, c := range []weights.Config{least, small, middle} {
		l := wantLeaves(model(c, 19))
		for i := 1; i < len(l); i++ {
			leaf := l[i]
			for what, other := range map[string][]byte{
				"nothing":          nil,
				"a byte less":      leaf[:len(leaf)-1],
				"a byte less, too": leaf[1:],
				"a byte more":      append(slices.Clone(leaf), 0),
				"a byte ahead":     append([]byte{0}, leaf...),
				"a number less":    leaf[8:],
				"a number more":    append(slices.Clone(leaf), written(1)...),
				"twice":            append(slices.Clone(leaf), leaf...),
				"joined":           joined(leaf),
				"a byte":           {1},
				"three":            {1, 2, 3},
			} {
				refuseParse(t, fmt.Sprintf("leaf %d of %v: %s", i, c, what), joined(with(l, i, other)...), api.ErrForm)
			}
		}
		// As many numbers in all, but one has gone to the leaf behind, or ahead.
		for i := 1; i+1 < len(l); i++ {
			many := len(l[i]) - 8
			refuseParse(t, "one further", joined(with(with(l, i, l[i][:many]), i+1, slices.Concat(l[i][many:], l[i+1]))...), api.ErrForm)
			refuseParse(t, "one back", joined(with(with(l, i, slices.Concat(l[i], l[i+1][:8])), i+1, l[i+1][8:])...), api.ErrForm)
		}
	}
}

// TestParseBlocksOfOtherLengths has all leaves of a vector or a matrix have another number of numbers, that of a later one, too.
func TestParseBlocksOfOtherLengths(t *testing.T) { // P10.3
	for _, c := range []weights.Config{small, middle, {Vocab: 3, Dim: 4, Heads: 1, Layers: 1, Ctx: 1, Hidden: 5}, {Vocab: 2, Dim: 6, Heads: 1, Layers: 1, Ctx: 1, Hidden: 3}} {
		base := model(c, 23)
		l := wantLeaves(base)
		first := 1
		for _, s := range stands(&base) {
			for n := range 9 {
				turned := slices.Clone(l)
				for i := range s.rows {
					turned[first+i] = written(make([]int, n)...)
				}
				if n != s.cols {
					refuseParse(t, fmt.Sprintf("leaf %d of %v: %d numbers", first, c, n), joined(turned...), api.ErrForm)
				}
			}
			first += s.rows
		}
	}
}

// TestParseNumbers has the first and the last number of each leaf be such as the model's check refuses, or does not.
func TestParseNumbers(t *testing.T) { // P10.3
	w := model(middle, 20)
	l := wantLeaves(w)
	for i, p := range allParts(middle) {
		least, most := -maxWeight, maxWeight
		if p.Kind == weights.Norm || p.Kind == weights.Norm1 || p.Kind == weights.Norm2 {
			least, most = low, high
		}
		for _, n := range []int{least, least - 1, most, most + 1, math.MinInt, math.MaxInt, 1 << 31, 1 << 32, 1<<24 + 1, 0} {
			for _, at := range []int{0, len(l[i+1]) - 8} {
				leaf := slices.Clone(l[i+1])
				copy(leaf[at:], written(n))
				b := joined(with(l, i+1, leaf)...)
				if n < least || n > most {
					refuseParse(t, fmt.Sprintf("%d in %v", n, p), b, api.ErrRange)
					continue
				}
				want := model(middle, 20)
				rowOf(&want, p)[at/8] = n
				parses(t, fmt.Sprintf("%d in %v", n, p), b, want)
			}
		}
	}
}

// TestWhichErrorOfParse has more than one thing be wrong: what is of the form comes first, wherever it stands.
func TestWhichErrorOfParse(t *testing.T) { // P10.3, R1
	w := model(middle, 21)
	l := wantLeaves(w)
	last := len(l) - 1
	twice := w
	twice.Alphabet = []byte("aaaa")
	fewer := w
	fewer.Pairs = w.Pairs[1:]
	far := slices.Clone(l[1])
	copy(far, written(maxWeight+1))
	for i, c := range []struct {
		l [][]byte
		e api.Errno
	}{
		{with(with(l, 0, head(twice)), last, l[last][1:]), api.ErrForm}, {with(with(l, 0, head(fewer)), last, l[last][8:]), api.ErrForm}, {with(l, 0, head(twice))[:last], api.ErrForm}, {append(with(l, 0, head(fewer)), nil), api.ErrForm},
		{with(with(l, 1, far), last, l[last][1:]), api.ErrForm}, {with(l, 1, far)[:last], api.ErrForm}, {append(with(l, 1, far), nil), api.ErrForm}, {with(with(l, 0, joined(nil, nil, nil)), 1, far), api.ErrForm},
		{with(with(l, 0, head(twice)), 1, far), api.ErrThere}, {with(with(l, 0, head(fewer)), 1, far), api.ErrSize}, {with(l, 0, head(twice)), api.ErrThere}, {with(l, 0, head(fewer)), api.ErrSize}, {with(l, 1, far), api.ErrRange},
	} {
		refuseParse(t, fmt.Sprint("the ", i, "-th"), joined(c.l...), c.e)
	}
	refuseParse(t, "no pieces behind it all", append(joined(with(l, 0, head(twice))...), 1), api.ErrForm)
}

// TestParseSeesEachByte turns each byte: what is still a model is another one.
func TestParseSeesEachByte(t *testing.T) { // P10.3, P10.4
	for _, c := range []weights.Config{least, small, middle} {
		w := model(c, 22)
		b := wantEncode(w)
		for at := range b {
			for _, bit := range []byte{1, 8, 128} {
				b[at] ^= bit
				want, wantE := wantParse(b)
				if wantE != api.OK {
					refuseParse(t, fmt.Sprint("byte ", at), b, wantE)
				} else {
					parses(t, fmt.Sprint("byte ", at), b, want)
					if same(want, w) {
						t.Errorf("byte %d does not count", at)
					}
				}
				b[at] ^= bit
			}
		}
	}
}

func FuzzParse(f *testing.F) { // P10.3, P10.4, R1
	f.Add([]byte(nil), 0, uint64(0), []byte(nil))
	f.Add(wantEncode(model(least, 1)), 3, uint64(2), []byte{0, 1})
	f.Add(wantEncode(model(small, 1)), 0, uint64(1), joined(written(3, 2, 1, 1, 4, 1), []byte("ab"), written(0, 1)))
	f.Add(wantEncode(model(small, 2)), 16, uint64(1), written(1<<40))
	f.Add(wantEncode(model(middle, 3)), -1, uint64(9), []byte("leaf"))
	f.Fuzz(func(t *testing.T, b []byte, at int, seed uint64, leaf []byte) {
		l := wantLeaves(model(someConfigs()[seed%3], seed))
		for _, b := range [][]byte{b, joined(with(l, int(uint(at)%uint(len(l))), leaf)...)} {
			w, e := wantParse(b)
			if e != api.OK {
				refuseParse(t, "bytes", b, e)
			} else {
				parses(t, "bytes", b, w)
			}
		}
	})
}
