package bpe_test

import (
	"bytes"
	"slices"
	"strings"
	"testing"

	"cupel/api"
	"cupel/bpe"
)

// told is a text, and its tokens.
type told struct {
	text   string
	tokens []int
}

func (b both) told(l ...told) {
	b.Helper()
	for _, c := range l {
		if got, n, e := b.encode(c.text); !slices.Equal(got, c.tokens) || n != 0 || e != api.OK {
			b.Errorf("Encode of %q: %d %d %d, not %d", c.text, got, n, int(e), c.tokens)
		}
	}
}

// TestEncodeTold has answers that another program has worked out.
func TestEncodeTold(t *testing.T) { // P9.2
	made(t, "ab", pairs(0, 1, 2, 2)...).told(
		told{"", nil}, told{"a", []int{0}}, told{"b", []int{1}}, told{"ab", []int{2}}, told{"ba", []int{1, 0}}, told{"babb", []int{1, 2, 1}}, told{"abab", []int{3}}, told{"ababab", []int{3, 2}}, told{"abababab", []int{3, 3}}, told{"bbaa", []int{1, 1, 0, 0}},
	)
	made(t, "ab", pairs(0, 0, 2, 0, 0, 1, 2, 4)...).told(
		told{"ab", []int{4}}, told{"abb", []int{4, 1}}, told{"aab", []int{2, 1}}, told{"aabb", []int{2, 1, 1}}, told{"aaab", []int{3, 1}}, told{"aaaab", []int{2, 2, 1}}, told{"aaaaab", []int{2, 3, 1}}, told{"aaaaabb", []int{2, 3, 1, 1}},
	)
	made(t, "helo wrd", pairs(0, 1, 2, 2, 8, 9, 10, 3, 3, 6, 4, 5, 12, 2, 13, 12, 2, 7, 9, 3, 11, 4)...).told(
		told{"hello world", []int{11, 13, 14, 7}}, told{"hell", []int{10}}, told{"hello hello", []int{18, 11}}, told{"world", []int{5, 14, 7}}, told{"lllll", []int{9, 9, 2}}, told{"world hello", []int{5, 14, 7, 4, 11}}, told{"drow olleh", []int{7, 6, 3, 5, 4, 3, 9, 1, 0}},
	)
}

// TestNeighboursOfOneKind has pairs of a token and itself: from the left, none twice.
func TestNeighboursOfOneKind(t *testing.T) { // P9.2
	made(t, "a", pairs(0, 0)...).told(
		told{"a", []int{0}}, told{"aa", []int{1}}, told{"aaa", []int{1, 0}}, told{"aaaa", []int{1, 1}}, told{"aaaaa", []int{1, 1, 0}}, told{"aaaaaa", []int{1, 1, 1}}, told{"aaaaaaa", []int{1, 1, 1, 0}},
	)
	made(t, "a", pairs(0, 0, 1, 0)...).told(
		told{"aaa", []int{2}}, told{"aaaa", []int{1, 1}}, told{"aaaaa", []int{1, 2}}, told{"aaaaaa", []int{1, 1, 1}}, told{"aaaaaaa", []int{1, 1, 2}},
	)
	made(t, "a", pairs(0, 0, 1, 1, 0, 1)...).told(
		told{"aaa", []int{1, 0}}, told{"aaaa", []int{2}}, told{"aaaaa", []int{2, 0}}, told{"aaaaaa", []int{2, 1}}, told{"aaaaaaa", []int{2, 1, 0}},
	)
	made(t, "ba", pairs(1, 1)...).told(
		told{"aba", []int{1, 0, 1}}, told{"baaa", []int{0, 2, 1}}, told{"aaab", []int{2, 1, 0}}, told{"aaabaaa", []int{2, 1, 0, 2, 1}}, told{"aabaaaab", []int{2, 0, 2, 2, 0}},
	)
	b := made(t, "ab", doubled()...)
	for n := range 70 {
		b.encode(strings.Repeat("a", n))
		b.encode(strings.Repeat("ab", n))
		b.encode("b" + strings.Repeat("ab", n) + "a")
		c := made(t, "a", pairs(0, 0, 1, 1, 2, 2)...)
		c.encode(strings.Repeat("a", n))
	}
}

// TestTheFirstPairIsFirst has two pairs be after one token: the one that is told first gets it, wherever it stands.
func TestTheFirstPairIsFirst(t *testing.T) { // P9.2
	made(t, "abc", pairs(0, 1, 1, 2)...).told(told{"abc", []int{3, 2}}, told{"bc", []int{4}}, told{"bcab", []int{4, 3}}, told{"abcbc", []int{3, 2, 4}})
	made(t, "abc", pairs(1, 2, 0, 1)...).told(told{"abc", []int{0, 3}}, told{"ab", []int{4}}, told{"abbc", []int{4, 3}}, told{"ababc", []int{4, 0, 3}})
	// The text of the last pair is all of it, but what it is made of has been taken.
	made(t, "abc", pairs(0, 1, 1, 2, 0, 4)...).told(told{"abc", []int{3, 2}}, told{"aabc", []int{0, 3, 2}})
	made(t, "abcd", pairs(1, 2, 0, 1, 2, 3, 5, 6)...).told(told{"abcd", []int{0, 4, 3}}, told{"abcdab", []int{0, 4, 3, 5}})
}

// TestALaterPairByAnEarlierOne has later pairs that come up only by earlier ones, at either side of them.
func TestALaterPairByAnEarlierOne(t *testing.T) { // P9.2
	made(t, "abc", pairs(1, 2, 0, 1, 0, 3, 4, 2)...).told(
		told{"abc", []int{5}}, told{"ab", []int{4}}, told{"abb", []int{4, 1}}, told{"aabc", []int{0, 5}}, told{"ababc", []int{4, 5}}, told{"bcabc", []int{3, 5}}, told{"abcabcab", []int{5, 5, 4}}, told{"cba", []int{2, 1, 0}},
	)
	made(t, "abc", pairs(0, 1, 1, 2, 3, 2, 0, 4)...).told(
		told{"abc", []int{5}}, told{"bc", []int{4}}, told{"aabc", []int{0, 5}}, told{"abbc", []int{3, 4}}, told{"bcabc", []int{4, 5}}, told{"abcbc", []int{5, 4}},
	)
	// Each pair is of the one ahead of it, down to one token.
	made(t, "ab", doubled()...).told(told{strings.Repeat("ab", 8), []int{5}}, told{strings.Repeat("ab", 16), []int{5, 5}}, told{strings.Repeat("ab", 15), []int{5, 4, 3, 2}})
}

// TestNoEarlierPairByALaterOne: neighbours that a pair has made hold its token, and no pair ahead of it may; so pairs are merged once each, in their order.
func TestNoEarlierPairByALaterOne(t *testing.T) { // P9.1, P9.2
	// The pair that would be ahead of the one that makes its token is none.
	refuse(t, api.ErrRange, "abc", pairs(3, 2, 0, 1)...)
	refuse(t, api.ErrRange, "abc", pairs(0, 4, 1, 2)...)
	// What is left over of the first pair stands at the later one's token, but is none of the first pair's.
	made(t, "ab", pairs(0, 0, 0, 1, 3, 0)...).told(told{"aaaba", []int{2, 4}}, told{"aaabaa", []int{2, 3, 2}}, told{"abaab", []int{3, 2, 1}})
	c := newChance(99)
	for range 3000 {
		n := 1 + c.IntN(4)
		alphabet := anyBytes()[:n]
		b := made(t, alphabet, anyPairs(c, n, 12)...)
		text := anyText(c, alphabet, c.IntN(60))
		b.encode(text)
		_, _, _, merged := b.w.encode([]byte(text))
		for i, p := range merged {
			if i > 0 && p <= merged[i-1] {
				t.Fatalf("%q by %v: %d", text, b.w.pairs, merged)
			}
		}
	}
}

// TestAllSmallCoders has all coders of two bytes and three pairs, and texts of few bytes.
func TestAllSmallCoders(t *testing.T) { // P9.1, P9.2, P9.3
	texts := allTexts("ab", 6)
	for i := range 4 * 9 * 16 {
		first, second, third := i%4, i/4%9, i/36
		l := pairs(first%2, first/2, second%3, second/3, third%4, third/4)
		if w := (twin{[]byte("ab"), l}); w.wrong() != api.OK {
			refuse(t, w.wrong(), "ab", l...)
			continue
		}
		b := made(t, "ab", l...)
		for _, text := range texts {
			b.turned(text)
		}
	}
}

// TestEncodeMany has as many bytes as there may be, by as many tokens as there may be.
func TestEncodeMany(t *testing.T) { // P9.2, P9.3
	c := newChance(999)
	for _, n := range []int{1, 2, 5, 255, 256} {
		alphabet := anyBytes()[:n]
		for _, l := range [][]bpe.Pair{nil, inOrder(n, 512-n), anyPairs(c, n, 512-n)} {
			b := made(t, alphabet, l...)
			for _, many := range []int{4094, 4095, 4096} {
				b.turned(anyText(c, alphabet, many))
				b.turned(strings.Repeat(alphabet[n-1:], many))
				b.turned(strings.Repeat(alphabet, many/n+1)[:many])
			}
		}
	}
}

func TestEncodeNone(t *testing.T) { // P9.2
	for _, b := range []both{made(t, "a"), made(t, "ab", doubled()...), made(t, anyBytes(), inOrder(256, 256)...)} {
		for _, none := range [][]byte{nil, {}, []byte("xyz")[:0]} {
			if l, n, e := b.c.Encode(none); len(l) != 0 || n != 0 || e != api.OK {
				t.Error(l, n, int(e))
			}
		}
	}
}

func TestEncodeTooMany(t *testing.T) { // P9.2, R1
	b := made(t, "ab", doubled()...)
	for _, many := range []int{4097, 4098, 5000, 8192, 65536, 1 << 20} {
		for _, text := range []string{strings.Repeat("a", many), strings.Repeat("x", many), "x" + strings.Repeat("a", many-1), strings.Repeat("a", many-1) + "x", strings.Repeat("ab", many)[:many]} {
			if l, n, e := b.c.Encode([]byte(text)); len(l) != 0 || n != 0 || e != api.ErrLong {
				t.Errorf("%d bytes: %d %d %d", many, l, n, int(e))
			}
		}
	}
}

// TestByteThatIsNone has bytes beyond the alphabet at all places, alone or with others behind them.
func TestByteThatIsNone(t *testing.T) { // P9.2, R1
	b := made(t, "ab", doubled()...)
	for _, many := range []int{1, 2, 3, 4, 17, 4095, 4096} {
		for _, at := range []int{0, 1, 2, many / 3, many / 2, many - 2, many - 1} {
			if at < 0 || at >= many {
				continue
			}
			for _, none := range []byte{'c', '`', 'A', 0, 1, 127, 128, 255} {
				text := []byte(strings.Repeat("ab", many)[:many])
				text[at] = none
				for range 2 {
					if l, n, e := b.c.Encode(text); len(l) != 0 || n != at || e != api.ErrNone {
						t.Errorf("%d of %d: %d %d %d", at, many, l, n, int(e))
					}
					text[many-1] = 'y'
				}
			}
		}
	}
	b.told(told{"ab", []int{2}})
}

// TestEachByte has each byte be the only one of an alphabet, or the only one that is none of it.
func TestEachByte(t *testing.T) { // P9.2
	all := anyBytes()
	for i := range 256 {
		one := made(t, all[i:i+1])
		but := made(t, all[:i]+all[i+1:])
		for k := range 256 {
			text := []byte(all[k : k+1])
			_, n, e := one.c.Encode(text)
			if (e == api.OK) != (k == i) || n != 0 {
				t.Fatal(i, k, n, int(e))
			}
			l, n, e := but.c.Encode(slices.Concat([]byte(all[i+1:]), text, text))
			if k == i && (n != 255-i || e != api.ErrNone) || k != i && (e != api.OK || n != 0 || len(l) != 257-i) {
				t.Fatal(i, k, l, n, int(e))
			}
		}
	}
}

// turned holds what follows: Decode of Encode is the bytes, and no two neighbours in what Encode tells are a pair.
func (b both) turned(text string) {
	b.Helper()
	l, _, e := b.encode(text)
	if e != api.OK {
		b.Fatal(int(e))
	}
	if back, e := b.decode(l...); string(back) != text || e != api.OK {
		b.Fatalf("%q: %q %d", text, back, int(e))
	}
	for i := 1; i < len(l); i++ {
		if slices.Contains(b.w.pairs, bpe.Pair{A: l[i-1], B: l[i]}) {
			b.Fatalf("Encode of %q: %d, of which %d and %d are a pair", text, l, l[i-1], l[i])
		}
	}
}

func TestThereAndBack(t *testing.T) { // P9.2, P9.3
	c := newChance(9999)
	for range 3000 {
		n := 1 + c.IntN(256)>>c.IntN(8)
		alphabet := anyBytes()[256-n:]
		b := made(t, alphabet, anyPairs(c, n, c.IntN(40))...)
		b.turned(anyText(c, alphabet, c.IntN(300)>>c.IntN(8)))
		// Texts of tokens, one behind the other, have more pairs in them.
		var text bytes.Buffer
		for range c.IntN(20) {
			text.Write(b.w.text(c.IntN(b.w.many())))
		}
		b.turned(text.String())
	}
}
