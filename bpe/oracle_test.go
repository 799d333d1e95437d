package bpe_test

import (
	"math"
	"math/rand/v2"
	"slices"
	"strings"
	"testing"

	"cupel/api"
	"cupel/bpe"
)

// This file tells the chapter's words once more, to hold the package against them: tokens are runes of a text there, and pairs are replaced in it.

// firstRune is token 0's.
const firstRune = 0x4e00

// twin is what a coder is held against.
type twin struct {
	alphabet []byte
	pairs    []bpe.Pair
}

func (w twin) many() int { return len(w.alphabet) + len(w.pairs) }

func (w twin) text(token int) []byte {
	if token < len(w.alphabet) {
		return w.alphabet[token : token+1]
	}
	p := w.pairs[token-len(w.alphabet)]
	return slices.Concat(w.text(p.A), w.text(p.B))
}

// wrong is New's error.
func (w twin) wrong() api.Errno {
	if w.many() == len(w.pairs) || w.many() > 512 {
		return api.ErrSize
	}
	for i, b := range w.alphabet {
		if slices.Contains(w.alphabet[:i], b) {
			return api.ErrThere
		}
	}
	for i, p := range w.pairs {
		ahead := len(w.alphabet) + i
		if min(p.A, p.B) < 0 || max(p.A, p.B) >= ahead {
			return api.ErrRange
		}
		if slices.Contains(w.pairs[:i], p) {
			return api.ErrThere
		}
		if len(w.text(ahead)) > 16 {
			return api.ErrLong
		}
	}
	return api.OK
}

// encode also tells the numbers of the pairs that were merged, in their order.
func (w twin) encode(b []byte) (l []int, place int, e api.Errno, merged []int) {
	if len(b) > 4096 {
		return nil, 0, api.ErrLong, nil
	}
	var s string
	for i, x := range b {
		token := slices.Index(w.alphabet, x)
		if token < 0 {
			return nil, i, api.ErrNone, nil
		}
		s += string(rune(firstRune + token))
	}
	for {
		i := slices.IndexFunc(w.pairs, func(p bpe.Pair) bool { return strings.Contains(s, runes(p.A, p.B)) })
		if i < 0 {
			break
		}
		s = strings.ReplaceAll(s, runes(w.pairs[i].A, w.pairs[i].B), runes(len(w.alphabet)+i))
		merged = append(merged, i)
	}
	for _, r := range s {
		l = append(l, int(r)-firstRune)
	}
	return l, 0, api.OK, merged
}

func (w twin) decode(l []int) ([]byte, api.Errno) {
	var b []byte
	for _, token := range l {
		if token < 0 || token >= w.many() {
			return nil, api.ErrRange
		}
		b = append(b, w.text(token)...)
	}
	return b, api.OK
}

func runes(tokens ...int) string {
	var s string
	for _, token := range tokens {
		s += string(rune(firstRune + token))
	}
	return s
}

// both is a coder and what it is held against.
type both struct {
	*testing.T
	c *bpe.Coder
	w twin
}

// made is a coder that may be.
func made(t *testing.T, alphabet string, pairs ...bpe.Pair) both {
	t.Helper()
	c, e := bpe.New([]byte(alphabet), pairs...)
	if c == nil || e != api.OK {
		t.Fatalf("New of %q and %d pairs: %d", alphabet, len(pairs), int(e))
	}
	return both{t, c, twin{[]byte(alphabet), slices.Clone(pairs)}}
}

func (b both) encode(text string) ([]int, int, api.Errno) {
	b.Helper()
	l, n, e := b.c.Encode([]byte(text))
	want, wantN, wantE, _ := b.w.encode([]byte(text))
	if !slices.Equal(l, want) || n != wantN || e != wantE {
		b.Fatalf("Encode of %q, by %q and %v: %d %d %d, not %d %d %d", text, b.w.alphabet, b.w.pairs, l, n, int(e), want, wantN, int(wantE))
	}
	return l, n, e
}

func (b both) decode(l ...int) ([]byte, api.Errno) {
	b.Helper()
	text, e := b.c.Decode(l)
	want, wantE := b.w.decode(l)
	if string(text) != string(want) || e != wantE {
		b.Fatalf("Decode of %d, by %q and %v: %q %d, not %q %d", l, b.w.alphabet, b.w.pairs, text, int(e), want, int(wantE))
	}
	return text, e
}

// texts holds Many and all of Text against what is wanted, also of what is no token.
func (b both) texts() {
	b.Helper()
	many := b.c.Many()
	if many != b.w.many() {
		b.Fatalf("%d, not %d", many, b.w.many())
	}
	for token := range many {
		if text, e := b.c.Text(token); string(text) != string(b.w.text(token)) || e != api.OK {
			b.Fatalf("Text of %d of %d: %q %d", token, many, text, int(e))
		}
	}
	for _, token := range noTokens(many) {
		if text, e := b.c.Text(token); len(text) != 0 || e != api.ErrRange {
			b.Fatalf("Text of %d of %d: %q %d", token, many, text, int(e))
		}
	}
}

// noTokens is numbers that are no token of so many.
func noTokens(many int) []int {
	return []int{-1, -2, -many, -many - 1, -256, -1 << 31, -1 << 32, math.MinInt, math.MinInt + 1, many, many + 1, 2 * many, 513, 1 << 16, 1 << 31, 1 << 32, 1<<32 + 1, math.MaxInt}
}

// pairs is as many as half these numbers, A and B of each.
func pairs(l ...int) []bpe.Pair {
	var made []bpe.Pair
	for p := range slices.Chunk(l, 2) {
		made = append(made, bpe.Pair{A: p[0], B: p[1]})
	}
	return made
}

// anyBytes is all bytes there are, in an order that is none of numbers.
func anyBytes() string {
	b := make([]byte, 256)
	for i := range b {
		b[i] = byte(77 * (i + 5))
	}
	return string(b)
}

// inOrder is so many pairs that may be, of an alphabet of so many bytes: as short ones as there are, the first ones first.
func inOrder(bytes, many int) []bpe.Pair {
	lens := make([]int, bytes, bytes+many)
	for i := range lens {
		lens[i] = 1
	}
	var made []bpe.Pair
	for b := 0; ; b++ {
		for a := 0; a <= b; a++ {
			for _, p := range pairs(a, b, b, a) {
				if n := lens[p.A] + lens[p.B]; len(made) < many && n <= 16 && !slices.Contains(made, p) {
					made, lens = append(made, p), append(lens, n)
				}
			}
		}
		if len(made) == many {
			return made
		}
	}
}

// newChance is numbers of all kinds, the same in each run.
func newChance(seed uint64) *rand.Rand { return rand.New(rand.NewPCG(seed, 63)) }

// anyPairs is some pairs that may be, up to so many, of an alphabet of so many bytes.
func anyPairs(c *rand.Rand, bytes, many int) []bpe.Pair {
	w := twin{alphabet: []byte(anyBytes()[:bytes])}
	for range many {
		longer := w
		// Those that were made last are taken more often, so that there are pairs of pairs.
		a := max(c.IntN(w.many()), c.IntN(w.many()))
		longer.pairs = append(w.pairs, bpe.Pair{A: a, B: c.IntN(w.many())})
		if longer.wrong() == api.OK {
			w = longer
		}
	}
	return w.pairs
}

// anyText is so many bytes of an alphabet.
func anyText(c *rand.Rand, alphabet string, many int) string {
	b := make([]byte, many)
	for i := range b {
		b[i] = alphabet[c.IntN(len(alphabet))]
	}
	return string(b)
}

// allTexts is all texts of an alphabet that have so many bytes at most.
func allTexts(alphabet string, most int) []string {
	all := []string{""}
	last := all
	for range most {
		var next []string
		for _, s := range last {
			for _, b := range []byte(alphabet) {
				next = append(next, s+string([]byte{b}))
			}
		}
		all, last = append(all, next...), next
	}
	return all
}
