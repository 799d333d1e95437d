package lamport_test

import (
	"math"
	"testing"

	"cupel/api"
	"cupel/lamport"
)

func TestSecretKnown(t *testing.T) { // P4.1
	for _, c := range []struct {
		seed       api.Digest
		place, bit int
		digits     string
	}{
		{noughts, 0, 0, "d23bbf74e780c0da86a6f25bfca8b55986884a13c6be301f15c96ef872765bac"},
		{noughts, 0, 1, "a229dfa2b5586c84d01fb4ffa753977bdc4a505546ec3901fba2dc7b6337197d"},
		{noughts, 255, 0, "b10f21a15d03ff36f1653bec29b944db087908b22f4a4b00c2268fec38bdec64"},
		{noughts, 255, 1, "c80ea7b1833e945cc71b60fa3b89f8b7fef9aa14649af227c2e6c2f9a6a9b6b8"},
		{ones, 0, 0, "f9e6d90a77085d76a2a0e8176cfe205d504a8cb9ee5c7c719d4e667eb309e166"},
		{ones, 0, 1, "7e145bf537517ac59a524c6f5daa2903a19480b9f3b6efe5c71171c8f0a903b7"},
		{ones, 255, 0, "b54874672593b2700744837055ae697f8576e9de91d3df61b931ecc24d80162c"},
		{ones, 255, 1, "ffde8dc23b8f23f9949de60dabb7c57c3df12e3976725fba86d10a160e8dd794"},
		{counted(), 0, 0, "a92902f320402123f35d4102886b2d476d19e613c44d441d34e081e20255a81d"},
		{counted(), 255, 1, "3906fa750148c34ebf19b05bda5ecd86aaa11dfcc5ef840bbce0b93ea42a7320"},
	} {
		d, e := lamport.Secret(c.seed, c.place, c.bit)
		if e != api.OK {
			t.Error(c.place, c.bit, int(e))
		}
		is(t, "secret", d, c.digits)
	}
}

func TestSecretEach(t *testing.T) { // P4.1
	seen := map[api.Digest]bool{}
	for _, seed := range seeds() {
		for place := range 256 {
			for bit := range 2 {
				d, e := lamport.Secret(seed, place, bit)
				if e != api.OK || d != wantSecret(seed, place, bit) {
					t.Fatalf("%x %d %d: %x %d", seed, place, bit, d, int(e))
				}
				if seen[d] {
					t.Fatalf("%x %d %d: %x is another one's, too", seed, place, bit, d)
				}
				seen[d] = true
			}
		}
	}
}

func TestSecretRefuses(t *testing.T) { // P4.1
	wrongPlaces := []int{-1, -2, -255, -256, 256, 257, 511, 512, 1 << 16, 1 << 31, 1 << 32, 1 << 62, math.MaxInt, math.MinInt, math.MinInt + 1}
	wrongBits := []int{-1, -2, 2, 3, 128, 255, 256, 257, 1 << 32, 1<<32 + 1, math.MaxInt, math.MinInt, math.MinInt + 1}
	refuse := func(place, bit int) {
		for _, seed := range []api.Digest{noughts, ones, sample(1)} {
			if d, e := lamport.Secret(seed, place, bit); e != api.ErrRange || d != noughts {
				t.Errorf("%d %d: %x %d", place, bit, d, int(e))
			}
		}
	}
	for _, place := range wrongPlaces {
		for _, bit := range append(wrongBits, 0, 1) {
			refuse(place, bit)
		}
	}
	for _, bit := range wrongBits {
		for place := range 256 {
			refuse(place, bit)
		}
	}
}

func TestPublicKnown(t *testing.T) { // P4.1
	is(t, "noughts", lamport.Public(noughts), "14214f020d96fd1633b622ca47eebce93db15fe9be86911aaf7d63ab926b2a84")
	is(t, "ones", lamport.Public(ones), "e32fe312a0c118c5aa36a6c29616062b06dc4a93716183b457cd0a41cdd59cc5")
	is(t, "0 to 31", lamport.Public(counted()), "07fdc31eff0789b4aa193a27262b665ec5dcc10ce8a73d17ab3728d1ea2ab3fb")
}

func TestPublic(t *testing.T) { // P4.1
	seen := map[api.Digest]bool{}
	for _, seed := range seeds() {
		d := lamport.Public(seed)
		if d != wantPublic(seed) || seen[d] {
			t.Errorf("%x: %x", seed, d)
		}
		seen[d] = true
	}
}

func TestSign(t *testing.T) { // P4.1
	for _, seed := range seeds() {
		for _, message := range messages() {
			if lamport.Sign(seed, message) != wantSign(seed, message) {
				t.Errorf("%x of %x", message, seed)
			}
		}
	}
}

// TestSignPlaces turns one bit after the other: it counts at its own place alone.
func TestSignPlaces(t *testing.T) { // P4.1
	seed := sample(4)
	for _, all := range []api.Digest{noughts, ones, sample(5)} {
		first := lamport.Sign(seed, all)
		for place := range 256 {
			s := lamport.Sign(seed, turned(all, place))
			opened, e := lamport.Secret(seed, place, 1-bitOf(all, place))
			if e != api.OK || s.Open[place] != opened || s.Rest[place] != hash(first.Open[place]) || first.Rest[place] != hash(opened) {
				t.Errorf("%d: not its secret", place)
			}
			s.Open[place], s.Rest[place] = first.Open[place], first.Rest[place]
			if s != first {
				t.Errorf("%d: it counts at another place", place)
			}
		}
	}
}

// TestSignTellsNoOther holds that what is secret of the other bit is in no signature.
func TestSignTellsNoOther(t *testing.T) { // P4.1
	seed := sample(6)
	for _, message := range messages() {
		s := lamport.Sign(seed, message)
		told := map[api.Digest]bool{}
		for place := range 256 {
			told[s.Open[place]], told[s.Rest[place]] = true, true
		}
		for place := range 256 {
			if told[wantSecret(seed, place, 1-bitOf(message, place))] {
				t.Errorf("%x: %d is told", message, place)
			}
		}
	}
}

func TestKeyKnown(t *testing.T) { // P4.1
	is(t, "noughts", lamport.Key(noughts, lamport.Sig{}), "8bb14c003a01a664834f234f50b296f8050cd127968e9522712281c04ffe12f7")
	is(t, "ones", lamport.Key(ones, lamport.Sig{}), "e60a3547f6736b2878311aa0796862dc0d7d7aa0b0da98c5a1786c645aad7682")
	is(t, "another", lamport.Key(counted(), lamport.Sign(noughts, noughts)), "a3b519cdc17c0a9067ad88887cf1d94660b6ef3b31facd4549310a4acfbae218")
}

func TestKeyOfAnySignature(t *testing.T) { // P4.1
	s := someSig()
	for _, message := range messages() {
		if d := lamport.Key(message, s); d != wantKey(message, s) {
			t.Errorf("%x: %x", message, d)
		}
		if d := lamport.Key(message, lamport.Sig{}); d != wantKey(message, lamport.Sig{}) {
			t.Errorf("%x, of noughts: %x", message, d)
		}
	}
}

// TestKeyPlaces turns one digest of a signature after the other.
func TestKeyPlaces(t *testing.T) { // P4.1
	for _, message := range []api.Digest{noughts, ones, sample(7)} {
		s := someSig()
		right := lamport.Key(message, s)
		for place := range 256 {
			for _, d := range []*api.Digest{&s.Open[place], &s.Rest[place]} {
				for _, at := range []int{0, 31} {
					d[at] ^= 1
					if got := lamport.Key(message, s); got == right || got != wantKey(message, s) {
						t.Errorf("%d: %x", place, got)
					}
					d[at] ^= 1
				}
			}
		}
		if lamport.Key(message, s) != right {
			t.Error("not what it was")
		}
	}
}

// TestKeyOfAPair sets both digests of a place alike: then that bit does not count, and each other one does.
func TestKeyOfAPair(t *testing.T) { // P4.1
	for _, place := range []int{0, 1, 7, 8, 254, 255} {
		s := someSig()
		s.Rest[place] = hash(s.Open[place])
		right := lamport.Key(noughts, s)
		for other := range 256 {
			if got := lamport.Key(single(other), s); (got == right) != (other == place) {
				t.Errorf("%d, of the pair %d", other, place)
			}
		}
	}
}

func TestKeyIsPublic(t *testing.T) { // P4.3, and the chapter's example
	for _, seed := range seeds() {
		public := lamport.Public(seed)
		for _, message := range messages() {
			if lamport.Key(message, lamport.Sign(seed, message)) != public {
				t.Errorf("%x of %x", message, seed)
			}
		}
	}
	seed := sample(8)
	public := lamport.Public(seed)
	for place := range 256 {
		if lamport.Key(single(place), lamport.Sign(seed, single(place))) != public {
			t.Error(place)
		}
	}
}

// TestKeyOfAnother holds that a signature is right of no other digest: it would take two rows of bytes with one digest.
func TestKeyOfAnother(t *testing.T) { // P4.3
	seed := sample(9)
	public := lamport.Public(seed)
	for _, message := range messages() {
		s := lamport.Sign(seed, message)
		for place := range 256 {
			if lamport.Key(turned(message, place), s) == public {
				t.Errorf("%x: the bit at %d does not count", message, place)
			}
		}
		for _, other := range messages() {
			if (lamport.Key(other, s) == public) != (other == message) {
				t.Errorf("%x for %x", other, message)
			}
		}
	}
}

func TestKeyOfAnotherSeed(t *testing.T) { // P4.3
	for i, seed := range seeds() {
		s := lamport.Sign(seed, ones)
		for j, other := range seeds() {
			if (lamport.Key(ones, s) == lamport.Public(other)) != (i == j) {
				t.Errorf("%x by %x", other, seed)
			}
		}
	}
}

func TestAnswersAgain(t *testing.T) { // R2, R3
	seed, message := sample(10), sample(11)
	public, s := lamport.Public(seed), lamport.Sign(seed, message)
	kept := s
	for i := range 20 {
		lamport.Public(sample(i))
		lamport.Sign(seed, sample(i))
		lamport.Secret(seed, i, 2)
		lamport.Key(sample(i), s)
		if lamport.Public(seed) != public || lamport.Sign(seed, message) != kept || lamport.Key(message, s) != public || s != kept {
			t.Fatal(i)
		}
	}
	if seed != sample(10) || message != sample(11) {
		t.Error("written into")
	}
}

func FuzzKey(f *testing.F) { // P4.1, P4.3
	f.Add([]byte(nil), []byte(nil), 0, 0)
	f.Add(ones[:], ones[:], 255, 1)
	f.Add([]byte("seed"), []byte{128}, -1, 2)
	f.Add([]byte("seed"), []byte{31: 1}, 256, -1)
	f.Fuzz(func(t *testing.T, a, b []byte, place, bit int) {
		var seed, message api.Digest
		copy(seed[:], a)
		copy(message[:], b)
		s := lamport.Sign(seed, message)
		if s != wantSign(seed, message) || lamport.Key(message, s) != lamport.Public(seed) {
			t.Errorf("%x of %x", message, seed)
		}
		d, e := lamport.Secret(seed, place, bit)
		if place < 0 || place > 255 || bit != 0 && bit != 1 {
			if e != api.ErrRange || d != noughts {
				t.Errorf("%d %d: %x %d", place, bit, d, int(e))
			}
			return
		}
		if e != api.OK || d != wantSecret(seed, place, bit) {
			t.Errorf("%d %d: %x %d", place, bit, d, int(e))
		}
		if lamport.Key(turned(message, place), s) == lamport.Public(seed) {
			t.Errorf("%x of %x: the bit at %d does not count", message, seed, place)
		}
	})
}
