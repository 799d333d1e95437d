package bpe_test

import (
	"bytes"
	"math"
	"slices"
	"strings"
	"sync"
	"testing"

	"cupel/api"
	"cupel/bpe"
)

func TestNilCoder(t *testing.T) { // P9.1, P9.2, R1
	var c *bpe.Coder
	if c.Many() != 0 {
		t.Error(c.Many())
	}
	for _, token := range []int{0, 1, -1, 512, math.MinInt, math.MaxInt} {
		if text, e := c.Text(token); len(text) != 0 || e != api.ErrNil {
			t.Errorf("Text of %d: %q %d", token, text, int(e))
		}
		if text, e := c.Decode([]int{token, 0}); len(text) != 0 || e != api.ErrNil {
			t.Errorf("Decode of %d: %q %d", token, text, int(e))
		}
	}
	if text, e := c.Decode(nil); len(text) != 0 || e != api.ErrNil {
		t.Errorf("%q %d", text, int(e))
	}
	for _, b := range [][]byte{nil, {}, []byte("a"), make([]byte, 4096), make([]byte, 4097)} {
		if l, n, e := c.Encode(b); len(l) != 0 || n != 0 || e != api.ErrNil {
			t.Errorf("Encode of %d bytes: %d %d %d", len(b), l, n, int(e))
		}
	}
}

// inRoom is things that stand with room behind them in a longer row; and that row.
func inRoom[T any](v []T, behind T) (stood, room []T) {
	room = append(slices.Clone(v), slices.Repeat([]T{behind}, 9)...)
	return room[:len(v)], room
}

func TestNothingIsWritten(t *testing.T) { // R2
	for _, alphabet := range []string{"ab", "aba", "ba", ""} {
		for _, l := range [][]bpe.Pair{doubled(), pairs(0, 1, 0, 1), pairs(0, 1, 9, 9), nil, append(doubled(), pairs(5, 5)...)} {
			letters, room := inRoom([]byte(alphabet), 'z')
			given, roomOfPairs := inRoom(l, bpe.Pair{A: 1, B: 1})
			kept, keptPairs := slices.Clone(room), slices.Clone(roomOfPairs)
			bpe.New(letters, given...)
			if !slices.Equal(room, kept) || !slices.Equal(roomOfPairs, keptPairs) {
				t.Errorf("New has written into %q, %v", alphabet, l)
			}
		}
	}
	b := made(t, "ab", doubled()...)
	for _, s := range []string{"", "a", "abab", "ababb", "abxab", strings.Repeat("ab", 2048), strings.Repeat("a", 4097)} {
		text, room := inRoom([]byte(s), 'a')
		kept := slices.Clone(room)
		b.c.Encode(text)
		if !slices.Equal(room, kept) {
			t.Errorf("Encode has written into %q", s)
		}
	}
	for _, l := range [][]int{{}, {0}, {0, 1, 0, 1}, {5, 4, 3, 2, 1, 0}, {0, 9, 0}, {-1}} {
		tokens, room := inRoom(l, 1)
		kept := slices.Clone(room)
		b.c.Decode(tokens)
		if !slices.Equal(room, kept) {
			t.Errorf("Decode has written into %d", l)
		}
	}
}

// TestNothingIsKept turns what a coder was made of.
func TestNothingIsKept(t *testing.T) { // R2, R3
	alphabet, l := []byte("abc"), pairs(0, 1, 3, 2, 4, 0)
	room := append(alphabet, "de"...)
	c, e := bpe.New(room[:3], l...)
	if e != api.OK {
		t.Fatal(int(e))
	}
	b := both{t, c, twin{[]byte("abc"), slices.Clone(l)}}
	texts := append(allTexts("abc", 5), "abcabcaabca", "abd", "xyz")
	for range 2 {
		b.texts()
		for _, text := range texts {
			b.encode(text)
		}
		b.decode(0, 1, 2, 3, 4, 5)
		copy(room, "xyzxy")
		copy(alphabet, "yzx")
		for i := range l {
			l[i] = bpe.Pair{A: 2 - i, B: i}
		}
	}
}

// TestAnswersAreTheCallers turns what a coder has answered, also behind its length, and asks again.
func TestAnswersAreTheCallers(t *testing.T) { // R2, R3
	b := made(t, "ab", doubled()...)
	for range 3 {
		b.texts()
		for token := range 6 {
			text, _ := b.c.Text(token)
			scribble(text, 'z')
			text, _ = b.c.Decode([]int{token})
			scribble(text, 'z')
		}
		for _, s := range []string{"", "a", "ab", "ababb", strings.Repeat("abb", 100), strings.Repeat("ab", 2048)} {
			l, _, _ := b.encode(s)
			kept := slices.Clone(l)
			other, _, _ := b.encode(s)
			scribble(other, 77)
			if !slices.Equal(l, kept) {
				t.Fatalf("%q: %d", s, l)
			}
			text, _ := b.decode(l...)
			again, _ := b.decode(l...)
			scribble(again, 'z')
			if string(text) != s {
				t.Fatalf("%q: %q", s, text)
			}
			scribble(l, -1)
			scribble(text, 0)
		}
	}
}

// scribble writes into all that stands in a list, and into what room it has.
func scribble[T any](l []T, x T) {
	l = l[:cap(l)]
	for i := range l {
		l[i] = x
	}
}

// TestErrorsLeaveNoTrace asks what can't be answered between what can.
func TestErrorsLeaveNoTrace(t *testing.T) { // R1, R3
	b := made(t, "ab", doubled()...)
	for i := range 200 {
		b.c.Encode([]byte("ababx"))
		b.c.Encode(bytes.Repeat([]byte("ab"), 3000))
		b.c.Decode([]int{0, 1, 6 + i})
		b.c.Text(-i)
		b.c.Text(6 + i)
		b.texts()
		b.turned(strings.Repeat("ab", i) + "b" + strings.Repeat("a", i))
	}
}

// TestCodersGoEachForItself has coders of one alphabet, and of the same pairs in other orders, be asked in turns.
func TestCodersGoEachForItself(t *testing.T) { // R3
	all := []both{made(t, "ab"), made(t, "ba"), made(t, "ab", pairs(0, 1, 1, 0)...), made(t, "ab", pairs(1, 0, 0, 1)...), made(t, "ba", pairs(0, 1, 1, 0)...), made(t, "ab", doubled()...)}
	for _, text := range allTexts("ab", 7) {
		for _, b := range all {
			b.turned(text)
		}
	}
}

// TestSameAnswerEachTime has a map's order not be seen in an answer.
func TestSameAnswerEachTime(t *testing.T) { // R3
	c := newChance(909)
	l := anyPairs(c, 3, 200)
	text := anyText(c, anyBytes()[:3], 1000)
	want, _, _ := made(t, anyBytes()[:3], l...).encode(text)
	for range 50 {
		x, _ := bpe.New([]byte(anyBytes()[:3]), l...)
		for range 2 {
			if got, n, e := x.Encode([]byte(text)); !slices.Equal(got, want) || n != 0 || e != api.OK {
				t.Fatal(got, n, int(e))
			}
		}
	}
}

// TestSideBySide has one coder asked at once from many places.
func TestSideBySide(t *testing.T) { // R3
	b := made(t, "ab", doubled()...)
	var all sync.WaitGroup
	for i := range 8 {
		all.Go(func() {
			for turn := range 100 {
				text := strings.Repeat("ab", i*turn) + strings.Repeat("b", turn)
				want, _, _, _ := b.w.encode([]byte(text))
				l, n, e := b.c.Encode([]byte(text))
				if !slices.Equal(l, want) || n != 0 || e != api.OK {
					t.Errorf("Encode: %d %d", n, int(e))
				}
				if back, e := b.c.Decode(l); string(back) != text || e != api.OK {
					t.Errorf("Decode: %d", int(e))
				}
			}
		})
	}
	all.Wait()
}

func FuzzCalls(f *testing.F) { // P9.1, P9.2, P9.3, R1
	f.Add([]byte("ab"), []byte{0, 1, 2, 2}, []byte("ababb"), 3)
	f.Add([]byte("a"), []byte{0, 0, 1, 1, 2, 2, 3, 3, 4, 0}, []byte("aaaaaaaa"), -1)
	f.Add([]byte(""), []byte{}, []byte("x"), 0)
	f.Add([]byte("abc"), []byte{255, 0}, []byte("abc"), math.MinInt)
	f.Add([]byte("aba"), []byte{0, 1, 0, 1}, []byte("abxc"), math.MaxInt)
	f.Add([]byte("ab"), []byte{0, 1, 0, 1}, []byte("ab"), 2)
	f.Add([]byte("ab"), []byte{0, 1, 1, 0}, []byte("abxabxab"), 2)
	f.Fuzz(func(t *testing.T, alphabet, l, text []byte, token int) {
		w := twin{alphabet: alphabet}
		for p := range slices.Chunk(l[:len(l)&^1], 2) {
			w.pairs = append(w.pairs, bpe.Pair{A: int(int8(p[0])), B: int(int8(p[1]))})
		}
		if e := w.wrong(); e != api.OK {
			refuse(t, e, string(alphabet), w.pairs...)
			return
		}
		b := made(t, string(alphabet), w.pairs...)
		b.texts()
		if _, _, e := b.encode(string(text)); e == api.OK {
			b.turned(string(text))
		}
		b.decode(token)
		b.decode(0, token, b.w.many()-1)
	})
}
