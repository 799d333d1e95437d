package bpe_test

import (
	"bytes"
	"slices"
	"strings"
	"testing"

	"cupel/api"
)

func TestDecodeTold(t *testing.T) { // P9.2
	b := made(t, "ab", pairs(0, 1, 2, 2)...)
	for _, c := range []told{
		{"", nil}, {"", []int{}}, {"a", []int{0}}, {"b", []int{1}}, {"ab", []int{2}}, {"abab", []int{3}}, {"ab", []int{0, 1}}, {"abab", []int{2, 2}}, {"ababb", []int{3, 1}}, {"babababa", []int{1, 3, 2, 0}}, {"aaaa", []int{0, 0, 0, 0}},
	} {
		if text, e := b.decode(c.tokens...); string(text) != c.text || e != api.OK {
			t.Errorf("%d: %q %d", c.tokens, text, int(e))
		}
	}
}

// TestDecodeOfOne has each token alone, the first and the last one among them: it is its text.
func TestDecodeOfOne(t *testing.T) { // P9.2
	for _, b := range []both{made(t, "a"), made(t, "ab", doubled()...), made(t, anyBytes()), made(t, anyBytes()[:1], inOrder(1, 511)...), made(t, anyBytes(), inOrder(256, 256)...)} {
		for token := range b.c.Many() {
			text, _ := b.c.Text(token)
			if one, e := b.decode(token); !bytes.Equal(one, text) || e != api.OK {
				t.Errorf("%d: %q %d", token, one, int(e))
			}
		}
	}
}

// TestDecodeAnyTokens also has tokens that Encode would not tell, and many of them.
func TestDecodeAnyTokens(t *testing.T) { // P9.2
	c := newChance(90)
	for range 1000 {
		n := 1 + c.IntN(20)
		b := made(t, anyBytes()[:n], anyPairs(c, n, 20)...)
		l := make([]int, c.IntN(50))
		for i := range l {
			l[i] = c.IntN(b.w.many())
		}
		b.decode(l...)
	}
	b := made(t, "ab", doubled()...)
	if text, e := b.c.Decode(slices.Repeat([]int{5}, 100000)); string(text) != strings.Repeat("ab", 800000) || e != api.OK {
		t.Error(len(text), int(e))
	}
}

func TestDecodeNoToken(t *testing.T) { // P9.2, R1
	for _, b := range []both{made(t, "a"), made(t, "ab", doubled()...), made(t, anyBytes(), inOrder(256, 256)...)} {
		many := b.c.Many()
		for _, wrong := range noTokens(many) {
			for _, l := range [][]int{{wrong}, {wrong, 0}, {0, wrong}, {0, many - 1, wrong, many - 1}, {wrong, wrong}, append(slices.Repeat([]int{0}, 5000), wrong)} {
				if text, e := b.decode(l...); len(text) != 0 || e != api.ErrRange {
					t.Errorf("%d of %d: %q %d", wrong, many, text, int(e))
				}
			}
		}
	}
}
