package keytree_test

import (
	"math"
	"slices"
	"testing"

	"cupel/api"
	"cupel/keytree"
	"cupel/lamport"
)

// farNumbers is numbers far from each tree's keys.
func farNumbers() []int {
	return []int{math.MinInt, math.MinInt + 1, -1 << 32, -64, -2, -1, 65, 127, 128, 1 << 31, 1 << 32, 1<<32 + 1, 1 << 62, math.MaxInt - 1, math.MaxInt}
}

func TestNewRefuses(t *testing.T) { // P5.1
	for _, high := range append(farNumbers(), 7, 8, 31, 32, 62, 63, 64) {
		for _, seed := range []api.Digest{noughts, ones, sample(2)} {
			if s, e := keytree.New(seed, high); s != nil || e != api.ErrRange {
				t.Errorf("high by %d: %d", high, int(e))
			}
		}
	}
}

func TestRootKnown(t *testing.T) { // P5.1
	for _, c := range []struct {
		seed   api.Digest
		digits [maxHigh + 1]string
	}{
		{noughts, [...]string{
			"da8e3440d44f0d0be28733b5d538a6f14004150cf213178c4c4796798034edea",
			"c2ff0d73cbdf83157000a525df6736a6e12a4f0e79ca7918df2a90537850d9e6",
			"f29104977079f5681f6fb1c23f21b77abc6187cccd26dd59722efd011ccb6962",
			"1e05884fb208701226622ab45dfa0b43df3f29f0faeb2aeabceea3a54cbc1d4e",
			"54187480f0771b9d9a8fb5f224d6cfed82617f9f41398da4445a27091567719e",
			"7ec43e092d0e4170045eb5acad6d05cfc39208322f721d30e3410b2254001bfb",
			"73f04bebcf57308518fc72d726b7bd4cb97fdca4e03cf6cd679346e10e9de452",
		}},
		{ones, [...]string{
			"d6d8cf53f051a2a57eb3686c736be979a6498e9ee24ebc641e130796a7431311",
			"b08d91d0f4ad58c02a04d9acd860e489382c4bfbf04dcd6af22c2fe2af190a07",
			"5e0cf0a7eb81f6790f4135c3f3c8be2d039956491d8d400810d4f349b0f909ae",
			"fb8aaecfbe2f7171030c1f7dd6fea37638910a4aef402bc510bbaf13e6759163",
			"8fed4be1efc4bf628bce805029de8226304035eea104c2add9bfb9985c201165",
			"e3adb20ca7bc3828781cb3e2492426125c0c81320331a57c3be39d25e1ab37fb",
			"474832b72d4d0b31a14a72337d0b3bb33de3f4b693d870a86e2309da8bc2fd7c",
		}},
		{counted(), [...]string{
			"4b12ddf8fdd868b9579d1d11d024cacd39b8a9c549dda3c3e4ca71cbd7f16b50",
			"20a1c1610cc1eb1fb7e18eb514e85f5991f84b7923d0cab860c4ec039160c669",
			"38f76d50d0cc7db387cdc43dc15b4122a1bd783e31dc96ba170ffade4351f520",
			"cff2e8f9fcd0288b0755d8966b067810d3d0623e8792f141ee041683c40c5dfe",
			"8a57f5db91e6f6b855e0201d7ce2e89bd69bdcac7ab4b5ba64374f1f2b836606",
			"81ebec65c600bf178dbd8b9e057dd59f65063d2f263864821472ca897cb05994",
			"7f1956cff284b5959785e66a8e2229eed08687f4379eda5b380fa4b05f9a95a0",
		}},
	} {
		for high, digits := range c.digits {
			is(t, "root", signer(t, c.seed, high).Root(), digits)
		}
	}
}

func TestNewSigner(t *testing.T) { // P5.1
	seen := map[api.Digest]bool{}
	for _, seed := range []api.Digest{noughts, {0: 1}, {31: 1}, sample(3)} {
		for high := range maxHigh + 1 {
			s := signer(t, seed, high)
			root := wantRoot(wantKeys(seed, high))
			for range 2 {
				if s.Next() != 0 || s.Root() != root {
					t.Errorf("high by %d: %d %x", high, s.Next(), s.Root())
				}
			}
			if seen[root] {
				t.Errorf("high by %d: %x is another one's, too", high, root)
			}
			seen[root] = true
		}
	}
}

func TestSignEachKey(t *testing.T) { // P5.1
	for high := range maxHigh + 1 {
		seed := sample(high)
		keys := wantKeys(seed, high)
		root := wantRoot(keys)
		s := signer(t, seed, high)
		for i := range keys {
			if s.Next() != i || s.Root() != root {
				t.Fatalf("key %d, high by %d: %d %x", i, high, s.Next(), s.Root())
			}
			message := messages()[i%len(messages())]
			x := sign(t, s, message)
			want := keytree.Signed{Index: i, Sig: lamport.Sign(wantSeed(seed, i), message), Path: wantPath(i, keys)}
			if !same(x, want) || len(x.Path) != high {
				t.Errorf("key %d, high by %d: %d %x", i, high, x.Index, x.Path)
			}
		}
		refuseSign(t, s, api.ErrUsed)
		if s.Next() != 1<<high || s.Root() != root {
			t.Errorf("high by %d, in the end: %d %x", high, s.Next(), s.Root())
		}
	}
}

// refuseSign holds Sign to its error, again and again, and to nothing beside it.
func refuseSign(t *testing.T, s *keytree.Signer, want api.Errno) {
	t.Helper()
	next := s.Next()
	for _, message := range messages() {
		if x, e := s.Sign(message); e != want || !isNothing(x) || s.Next() != next {
			t.Errorf("key %d: %d %d, then %d", next, x.Index, int(e), s.Next())
		}
	}
}

func TestExample(t *testing.T) { // P5.1, the chapter's example
	s := signer(t, sample(4), 1)
	if s.Next() != 0 {
		t.Error(s.Next())
	}
	for i := range 2 {
		if x := sign(t, s, sample(5)); x.Index != i || s.Next() != i+1 {
			t.Error(i, x.Index, s.Next())
		}
	}
	refuseSign(t, s, api.ErrUsed)
}

func TestTreeOfOneKey(t *testing.T) { // P5.1, P5.2
	seed, message := sample(6), sample(7)
	s := signer(t, seed, 0)
	key := lamport.Public(wantSeed(seed, 0))
	if s.Root() != hash([]byte{0}, key[:]) {
		t.Errorf("%x", s.Root())
	}
	x := sign(t, s, message)
	if x.Index != 0 || len(x.Path) != 0 || keytree.Check(s.Root(), 0, message, x) != api.OK {
		t.Error(x.Index, x.Path)
	}
	refuseSign(t, s, api.ErrUsed)
}

// TestSkipEach goes from each key to each other one, and to none, of trees of each height.
func TestSkipEach(t *testing.T) { // P5.1
	for high := range 4 {
		many := 1 << high
		for from := range many + 1 {
			for to := from; to <= many; to++ {
				s := signer(t, sample(8), high)
				if e := s.Skip(from); e != api.OK || s.Next() != from {
					t.Fatalf("to %d of %d: %d", from, many, int(e))
				}
				if e := s.Skip(to); e != api.OK || s.Next() != to {
					t.Fatalf("from %d to %d of %d: %d", from, to, many, int(e))
				}
				if to == many {
					refuseSign(t, s, api.ErrUsed)
				} else if x := sign(t, s, sample(9)); x.Index != to || s.Next() != to+1 {
					t.Errorf("from %d to %d of %d: %d", from, to, many, x.Index)
				}
			}
		}
	}
}

func TestSkipToNext(t *testing.T) { // P5.1
	s := signer(t, sample(10), 2)
	for i := range 4 {
		for range 3 {
			if e := s.Skip(i); e != api.OK || s.Next() != i {
				t.Fatal(i, int(e), s.Next())
			}
		}
		if x := sign(t, s, sample(i)); x.Index != i {
			t.Error(i, x.Index)
		}
	}
	if e := s.Skip(4); e != api.OK || s.Next() != 4 {
		t.Error(int(e), s.Next())
	}
	refuseSign(t, s, api.ErrUsed)
}

// TestSkipRefuses holds each signer, of whichever height and next key, to what it was.
func TestSkipRefuses(t *testing.T) { // P5.1, R1
	for high := range maxHigh + 1 {
		many := 1 << high
		s := signer(t, sample(11), high)
		root := s.Root()
		for _, next := range []int{0, many / 2, many - 1, many} {
			if e := s.Skip(next); e != api.OK {
				t.Fatal(high, next, int(e))
			}
			for _, to := range append(farNumbers(), 0, 1, next-1, many-1, many+1, many+2, 2*many) {
				want := api.ErrOrder
				if to > many {
					want = api.ErrRange
				} else if to >= next {
					continue
				}
				if e := s.Skip(to); e != want || s.Next() != next || s.Root() != root {
					t.Errorf("high by %d, from %d to %d: %d, then %d", high, next, to, int(e), s.Next())
				}
			}
		}
	}
}

// TestRefusalsTurnNothing asks for what is refused between signatures: these are the same as without.
func TestRefusalsTurnNothing(t *testing.T) { // R1, R3
	one, other := signer(t, sample(12), 2), signer(t, sample(12), 2)
	for i := range 4 {
		for _, to := range []int{5, -1, i - 1, math.MaxInt, math.MinInt} {
			if e := one.Skip(to); e == api.OK {
				t.Fatal(i, to)
			}
		}
		message := messages()[i]
		if x, y := sign(t, one, message), sign(t, other, message); !same(x, y) {
			t.Error(i, x.Index, y.Index)
		}
	}
	refuseSign(t, one, api.ErrUsed)
	if e := one.Skip(3); e != api.ErrOrder || one.Next() != 4 {
		t.Error(int(e), one.Next())
	}
	if one.Root() != other.Root() {
		t.Error("the root is another one")
	}
}

func TestNilSigner(t *testing.T) { // P5.1
	var s *keytree.Signer
	for range 2 {
		if s.Root() != noughts || s.Next() != 0 {
			t.Errorf("%x %d", s.Root(), s.Next())
		}
		for _, to := range append(farNumbers(), 0, 1, 64) {
			if e := s.Skip(to); e != api.ErrNil {
				t.Errorf("Skip(%d): %d", to, int(e))
			}
		}
		refuseSign(t, s, api.ErrNil)
	}
}

func TestSignersSideBySide(t *testing.T) { // R3
	seed, message := sample(13), sample(14)
	one, other := signer(t, seed, 2), signer(t, seed, 2)
	if e := one.Skip(2); e != api.OK || other.Next() != 0 {
		t.Error(int(e), other.Next())
	}
	first := sign(t, other, message)
	if one.Next() != 2 || other.Next() != 1 || one.Root() != other.Root() {
		t.Error(one.Next(), other.Next())
	}
	if e := other.Skip(2); e != api.OK || !same(sign(t, one, message), sign(t, other, message)) {
		t.Error("of one seed, and key, two signatures")
	}
	if again := signer(t, seed, 2); !same(sign(t, again, message), first) {
		t.Error("a new signer signs otherwise")
	}
}

// TestPathsAreTheCallers writes into each path that was told.
func TestPathsAreTheCallers(t *testing.T) { // R2
	seed := sample(15)
	keys := wantKeys(seed, 3)
	s := signer(t, seed, 3)
	var told []keytree.Signed
	for i := range keys {
		x := sign(t, s, ones)
		if !slices.Equal(x.Path, wantPath(i, keys)) || s.Root() != wantRoot(keys) {
			t.Fatalf("key %d: %x", i, x.Path)
		}
		_ = append(x.Path, ones)
		told = append(told, clone(x))
		clear(x.Path)
	}
	for i, x := range told {
		if !slices.Equal(x.Path, wantPath(i, keys)) {
			t.Errorf("key %d: its path has turned", i)
		}
	}
}

func TestSignedIsRight(t *testing.T) { // P5.3
	for high := range maxHigh + 1 {
		s := signer(t, sample(16), high)
		for i := range 1 << high {
			message := sample(100 + i)
			x := sign(t, s, message)
			if e := keytree.Check(s.Root(), high, message, x); e != api.OK {
				t.Errorf("key %d, high by %d: %d", i, high, int(e))
			}
			back, e := keytree.Decode(x.Encode())
			if e != api.OK || keytree.Check(s.Root(), high, message, back) != api.OK {
				t.Errorf("key %d, high by %d, as bytes: %d", i, high, int(e))
			}
		}
	}
}

// TestKeysSignOnce skips and signs by turns: no key signs again, and none that was skipped.
func TestKeysSignOnce(t *testing.T) { // P5.3
	const many = 64
	for _, stride := range []int{1, 2, 3, 7, 20, many} {
		s := signer(t, sample(17), maxHigh)
		root := s.Root()
		may := 0 // the first key that neither signed nor was skipped
		for s.Next() < many {
			x := sign(t, s, sample(stride))
			if x.Index != may || keytree.Check(root, maxHigh, sample(stride), x) != api.OK {
				t.Fatalf("key %d signs, not %d", x.Index, may)
			}
			may = min(max(x.Index+1, (x.Index/stride+1)*stride), many)
			if e := s.Skip(may); e != api.OK || s.Next() != may {
				t.Fatalf("to %d: %d", may, int(e))
			}
			for _, to := range []int{0, x.Index, may - 1} {
				if e := s.Skip(to); e != api.ErrOrder || s.Next() != may {
					t.Fatalf("back to %d: %d", to, int(e))
				}
			}
		}
		refuseSign(t, s, api.ErrUsed)
		if e := s.Skip(many); e != api.OK {
			t.Error(int(e))
		}
		refuseSign(t, s, api.ErrUsed)
	}
}

func FuzzSigner(f *testing.F) { // P5.1, P5.3
	f.Add([]byte(nil), 0, []byte(nil))
	f.Add([]byte("seed"), 1, []byte{0, 0, 0})
	f.Add([]byte("seed"), 3, []byte{0, 4, 2, 0, 12, 0, 0})
	f.Add([]byte("seed"), 7, []byte{0})
	f.Add([]byte("seed"), -1, []byte{1})
	f.Fuzz(func(t *testing.T, a []byte, high int, acts []byte) {
		var seed api.Digest
		copy(seed[:], a)
		if high < 0 || high > maxHigh {
			if s, e := keytree.New(seed, high); s != nil || e != api.ErrRange {
				t.Errorf("high by %d: %d", high, int(e))
			}
			return
		}
		s := signer(t, seed, high)
		root, next, many := s.Root(), 0, 1<<high
		for _, act := range acts {
			to := int(act) - 2
			switch {
			case act > 0 && to > many:
				if e := s.Skip(to); e != api.ErrRange {
					t.Fatalf("to %d: %d", to, int(e))
				}
			case act > 0 && to < next:
				if e := s.Skip(to); e != api.ErrOrder {
					t.Fatalf("to %d: %d", to, int(e))
				}
			case act > 0:
				if e := s.Skip(to); e != api.OK {
					t.Fatalf("to %d: %d", to, int(e))
				}
				next = to
			case next == many:
				refuseSign(t, s, api.ErrUsed)
			default:
				x := sign(t, s, seed)
				if x.Index != next || keytree.Check(root, high, seed, x) != api.OK {
					t.Fatalf("key %d: %d", next, x.Index)
				}
				next++
			}
			if s.Next() != next || s.Root() != root {
				t.Fatalf("%d: %d %x", next, s.Next(), s.Root())
			}
		}
	})
}
