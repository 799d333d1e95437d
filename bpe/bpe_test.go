package bpe_test

import (
	"math"
	"slices"
	"strings"
	"testing"

	"cupel/api"
	"cupel/bpe"
)

// refuse holds New to an error, and to no coder beside it.
func refuse(t *testing.T, e api.Errno, alphabet string, pairs ...bpe.Pair) {
	t.Helper()
	if c, is := bpe.New([]byte(alphabet), pairs...); c != nil || is != e {
		t.Errorf("New of %q and %d pairs, %v: %d, not %d", alphabet, len(pairs), pairs[:min(5, len(pairs))], int(is), int(e))
	}
}

func TestExample(t *testing.T) { // P9.1, P9.2, the chapter's example
	b := made(t, "ab", pairs(0, 1, 2, 2)...)
	b.texts()
	if l, n, e := b.encode("ababb"); !slices.Equal(l, []int{3, 1}) || n != 0 || e != api.OK {
		t.Error(l, n, int(e))
	}
}

// TestTexts has texts as they are to be read in the chapter.
func TestTexts(t *testing.T) { // P9.1
	for _, c := range []struct {
		alphabet string
		pairs    []bpe.Pair
		texts    []string
	}{
		{"a", nil, []string{"a"}},
		{"\x00", nil, []string{"\x00"}},
		{"\xff\x00", pairs(1, 0), []string{"\xff", "\x00", "\x00\xff"}},
		{"ba", nil, []string{"b", "a"}},
		{"ab", pairs(0, 1, 2, 2), []string{"a", "b", "ab", "abab"}},
		{"ab", pairs(0, 1, 1, 0, 2, 3, 3, 2), []string{"a", "b", "ab", "ba", "abba", "baab"}},
		{"cab", pairs(1, 2, 3, 0, 2, 0, 1, 5), []string{"c", "a", "b", "ab", "abc", "bc", "abc"}},
		{"z", pairs(0, 0, 1, 0, 0, 1, 2, 3), []string{"z", "zz", "zzz", "zzz", "zzzzzz"}},
	} {
		b := made(t, c.alphabet, c.pairs...)
		if b.c.Many() != len(c.texts) {
			t.Errorf("%q: %d", c.alphabet, b.c.Many())
		}
		for token, want := range c.texts {
			if text, e := b.c.Text(token); string(text) != want || e != api.OK {
				t.Errorf("%q, %d: %q %d, not %q", c.alphabet, token, text, int(e), want)
			}
		}
		b.texts()
	}
}

// TestAlphabets has all numbers of bytes that an alphabet may have.
func TestAlphabets(t *testing.T) { // P9.1
	for n := 1; n <= 256; n++ {
		made(t, anyBytes()[:n]).texts()
		made(t, anyBytes()[256-n:], pairs(0, n-1, n-1, n)...).texts()
	}
	for i := range 256 {
		made(t, string([]byte{byte(i)})).texts()
	}
}

func TestAlphabetOfNone(t *testing.T) { // P9.1
	if c, e := bpe.New(nil); c != nil || e != api.ErrSize {
		t.Error(int(e))
	}
	refuse(t, api.ErrSize, "")
	refuse(t, api.ErrSize, "", pairs(0, 0)...)
	refuse(t, api.ErrSize, "", pairs(-1, 0, -1, 0)...)
	refuse(t, api.ErrSize, "", make([]bpe.Pair, 600)...)
}

func TestByteTwice(t *testing.T) { // P9.1
	all := anyBytes()
	for _, s := range []string{"aa", "aba", "baa", "aab", "abcdefa", "abcdeff", "\x00\x00", "\xffa\xff", "\x80b\x80", "aaa", "abab", all + "a", "a" + all, all + all[255:], all[:255] + all[:1], all + all} {
		refuse(t, api.ErrThere, s)
	}
	for i := range 256 {
		refuse(t, api.ErrThere, all+all[i:i+1])
		refuse(t, api.ErrThere, all[i:i+1]+"-"+all[i:i+1])
	}
}

func TestManyTokens(t *testing.T) { // P9.1
	for _, n := range []int{1, 2, 3, 16, 255, 256} {
		alphabet := anyBytes()[:n]
		most := inOrder(n, 513-n)
		for _, many := range []int{510 - n, 511 - n, 512 - n} {
			b := made(t, alphabet, most[:many]...)
			if b.c.Many() != n+many {
				t.Fatal(n, many, b.c.Many())
			}
			b.texts()
		}
		if b := made(t, alphabet, most[:512-n]...); b.c.Many() != api.MaxVocab {
			t.Fatal(b.c.Many())
		}
		refuse(t, api.ErrSize, alphabet, most...)
		refuse(t, api.ErrSize, alphabet, make([]bpe.Pair, 5000)...)
	}
	// Of bytes alone there can't be 512, but there may be so many that stand there.
	twice := anyBytes() + anyBytes()
	refuse(t, api.ErrThere, twice)
	refuse(t, api.ErrSize, twice+"a")
	refuse(t, api.ErrSize, twice, pairs(0, 0)...)
	refuse(t, api.ErrThere, twice[1:], pairs(0, 0)...)
}

func TestPairOfTokensAhead(t *testing.T) { // P9.1
	made(t, "a", pairs(0, 0)...).texts()
	made(t, "a", pairs(0, 0, 1, 0, 2, 0, 3, 0)...).texts()
	made(t, "a", pairs(0, 0, 1, 1, 2, 2, 0, 3)...).texts()
	refuse(t, api.ErrRange, "a", pairs(1, 0)...)
	refuse(t, api.ErrRange, "a", pairs(0, 1)...)
	refuse(t, api.ErrRange, "a", pairs(1, 1)...)
	for n := 1; n < 12; n++ {
		alphabet := anyBytes()[:n]
		ahead := inOrder(n, 5)
		for many := range 5 {
			// next is the token that the pair itself would be.
			next := n + many
			short := ahead[:many:many]
			if last := (bpe.Pair{A: next - 1, B: next - 1}); !slices.Contains(short, last) {
				made(t, alphabet, append(short, last)...).texts()
			}
			for _, wrong := range append(noTokens(next), next, next+1) {
				refuse(t, api.ErrRange, alphabet, append(short, bpe.Pair{A: wrong, B: 0})...)
				refuse(t, api.ErrRange, alphabet, append(short, bpe.Pair{A: 0, B: wrong})...)
				refuse(t, api.ErrRange, alphabet, append(short, bpe.Pair{A: wrong, B: wrong})...)
				refuse(t, api.ErrRange, alphabet, append(short, bpe.Pair{A: wrong, B: next - 1})...)
			}
		}
	}
	// Some pair behind it would make this a token, but it is none yet.
	refuse(t, api.ErrRange, "ab", pairs(0, 3, 0, 1)...)
	refuse(t, api.ErrRange, "ab", pairs(3, 0, 0, 1, 1, 1)...)
}

// TestPairOfTheTokenJustAhead has each pair be of the one ahead of it, first or last.
func TestPairOfTheTokenJustAhead(t *testing.T) { // P9.1
	var first, last []bpe.Pair
	for i := range 15 {
		first = append(first, bpe.Pair{A: i + 2, B: i % 3})
		last = append(last, bpe.Pair{A: i % 3, B: i + 2})
		made(t, "abc", first...).texts()
		made(t, "abc", last...).texts()
	}
	refuse(t, api.ErrLong, "abc", append(first, bpe.Pair{A: 17, B: 0})...)
	refuse(t, api.ErrLong, "abc", append(last, bpe.Pair{A: 0, B: 17})...)
}

func TestPairTwice(t *testing.T) { // P9.1
	refuse(t, api.ErrThere, "ab", pairs(0, 1, 0, 1)...)
	refuse(t, api.ErrThere, "a", pairs(0, 0, 0, 0)...)
	refuse(t, api.ErrThere, "ab", pairs(0, 1, 1, 0, 2, 2, 0, 1)...)
	refuse(t, api.ErrThere, "ab", pairs(0, 1, 1, 0, 2, 3, 2, 3)...)
	refuse(t, api.ErrThere, "ab", pairs(0, 1, 2, 2, 3, 3, 4, 4, 4, 0, 4, 4)...)
	// These are none, though they have the same tokens, or the same text.
	made(t, "ab", pairs(0, 1, 1, 0)...).texts()
	made(t, "abc", pairs(0, 1, 1, 2, 3, 2, 0, 4)...).texts()
	made(t, "a", pairs(0, 0, 0, 1, 1, 0, 1, 1, 0, 2, 2, 0, 0, 3)...).texts()
	all := inOrder(3, 100)
	for i, p := range all {
		refuse(t, api.ErrThere, "abc", append(slices.Clone(all), p)...)
		refuse(t, api.ErrThere, "abc", append(slices.Clone(all[:i+1]), append([]bpe.Pair{p}, all[i+1:]...)...)...)
	}
}

// doubled is pairs of an alphabet of two bytes, tokens 2 to 5, whose texts have 2, 4, 8 and 16 bytes.
func doubled() []bpe.Pair { return pairs(0, 1, 2, 2, 3, 3, 4, 4) }

func TestLongTexts(t *testing.T) { // P9.1
	if text, e := made(t, "ab", doubled()...).c.Text(5); string(text) != strings.Repeat("ab", 8) || e != api.OK {
		t.Errorf("%q %d", text, int(e))
	}
	for a := range 6 {
		for b := range 6 {
			lens := []int{1, 1, 2, 4, 8, 16}
			p := bpe.Pair{A: a, B: b}
			if slices.Contains(doubled(), p) {
				continue
			}
			if lens[a]+lens[b] > 16 {
				refuse(t, api.ErrLong, "ab", append(doubled(), p)...)
			} else {
				made(t, "ab", append(doubled(), p)...).texts()
			}
		}
	}
	// Tokens 2 to 16 have texts of 2 to 16 bytes.
	var rising []bpe.Pair
	for i := range 15 {
		rising = append(rising, bpe.Pair{A: i + 1, B: 0})
	}
	for a := range 17 {
		for b := range 17 {
			p := bpe.Pair{A: a, B: b}
			switch {
			case slices.Contains(rising, p):
				refuse(t, api.ErrThere, "ab", append(rising, p)...)
			case max(a, 1)+max(b, 1) > 16:
				refuse(t, api.ErrLong, "ab", append(rising, p)...)
			default:
				made(t, "ab", append(rising, p)...).texts()
			}
		}
	}
}

// TestWhichErrorOfNew has more than one of them be right.
func TestWhichErrorOfNew(t *testing.T) { // P9.1, R1
	long := func(l ...int) []bpe.Pair { return append(doubled(), pairs(l...)...) }
	for i, c := range []struct {
		alphabet string
		pairs    []bpe.Pair
		e        api.Errno
	}{
		// Sizes come ahead of bytes, and bytes ahead of pairs.
		{anyBytes() + "a", make([]bpe.Pair, 256), api.ErrSize}, {"aa", make([]bpe.Pair, 511), api.ErrSize}, {"a", slices.Repeat(pairs(-1, 9), 512), api.ErrSize}, {"", pairs(0, 9), api.ErrSize},
		{"aa", pairs(9, 9), api.ErrThere}, {"aba", pairs(0, -1), api.ErrThere}, {"aba", long(5, 5), api.ErrThere}, {"abb", slices.Repeat(pairs(0, 1), 2), api.ErrThere}, {"aa", pairs(math.MinInt, math.MinInt), api.ErrThere}, {"aa", make([]bpe.Pair, 510), api.ErrThere},
		// One pair: beyond, and as long as may not be.
		{"ab", long(5, 6), api.ErrRange}, {"ab", long(6, 5), api.ErrRange}, {"ab", long(5, -1), api.ErrRange}, {"ab", long(-1, 5), api.ErrRange}, {"ab", long(math.MinInt, 5), api.ErrRange},
		// Two pairs: the first one is told.
		{"ab", pairs(0, 2, 0, -1), api.ErrRange}, {"ab", pairs(9, 9, 9, 9), api.ErrRange}, {"ab", long(5, 0, 9, 0), api.ErrLong}, {"ab", long(9, 0, 5, 0), api.ErrRange}, {"ab", long(5, 0, 0, 1), api.ErrLong}, {"ab", long(0, 1, 5, 0), api.ErrThere}, {"ab", long(0, 1, 9, 0), api.ErrThere}, {"ab", long(9, 0, 0, 1), api.ErrRange},
		{"ab", long(5, 0, 5, 0), api.ErrLong}, {"ab", long(-1, 0, -1, 0), api.ErrRange}, {"ab", long(0, 0, 0, 0, 5, 5), api.ErrThere}, {"ab", long(0, 0, 5, 5, 0, 0), api.ErrLong}, {"ab", long(0, 0, 6, 7, 6, 6, 0, 0), api.ErrRange},
	} {
		refuse(t, c.e, c.alphabet, c.pairs...)
		if want := (twin{[]byte(c.alphabet), c.pairs}).wrong(); want != c.e {
			t.Errorf("%d: %d, not %d", i, int(want), int(c.e))
		}
	}
}

// TestAnyNew has pairs of small numbers, most of which may not be.
func TestAnyNew(t *testing.T) { // P9.1, R1
	c := newChance(9)
	seen := map[api.Errno]int{}
	for range 20000 {
		alphabet := anyBytes()[:1+c.IntN(4)]
		if c.IntN(20) == 0 {
			alphabet += alphabet[:1]
		}
		var l []bpe.Pair
		ahead := len(alphabet)
		for i := range c.IntN(12) {
			l = append(l, bpe.Pair{A: c.IntN(ahead + i), B: c.IntN(ahead + i)})
			if c.IntN(30) == 0 {
				l[i].A = -c.IntN(3)
			}
			if c.IntN(30) == 0 {
				l[i].B += c.IntN(ahead)
			}
		}
		w := twin{[]byte(alphabet), l}
		seen[w.wrong()]++
		if w.wrong() != api.OK {
			refuse(t, w.wrong(), alphabet, l...)
		} else {
			made(t, alphabet, l...).texts()
		}
	}
	for _, e := range []api.Errno{api.OK, api.ErrThere, api.ErrRange, api.ErrLong} {
		if seen[e] < 100 {
			t.Errorf("%d: %d times", int(e), seen[e])
		}
	}
}

func TestTextOfNoToken(t *testing.T) { // P9.1
	for _, b := range []both{made(t, "a"), made(t, "ab", doubled()...), made(t, anyBytes()), made(t, anyBytes(), inOrder(256, 256)...)} {
		for _, token := range noTokens(b.c.Many()) {
			if text, e := b.c.Text(token); len(text) != 0 || e != api.ErrRange {
				t.Errorf("%d of %d: %q %d", token, b.c.Many(), text, int(e))
			}
		}
		for _, token := range []int{0, b.c.Many() - 1} {
			if text, e := b.c.Text(token); len(text) == 0 || e != api.OK {
				t.Errorf("%d of %d: %q %d", token, b.c.Many(), text, int(e))
			}
		}
	}
}
