package lamport_test

import (
	"bytes"
	"crypto/sha256"
	"testing"

	"cupel/api"
	"cupel/lamport"
)

// some is signatures: of keys, of none, of noughts and of ones.
func some() []lamport.Sig {
	l := []lamport.Sig{{}, someSig()}
	for _, message := range messages() {
		l = append(l, lamport.Sign(sample(20), message))
	}
	var s lamport.Sig
	for place := range 256 {
		s.Open[place], s.Rest[place] = ones, ones
	}
	return append(l, s)
}

// anyBytes is n bytes, no two neighbours alike.
func anyBytes(n int) []byte {
	b := make([]byte, n)
	for i := range b {
		b[i] = byte(i ^ i>>8*5 ^ 99)
	}
	return b
}

// refuseDecode holds Decode to its error, and to a signature of noughts beside it.
func refuseDecode(t *testing.T, b []byte) {
	t.Helper()
	if s, e := lamport.Decode(b); e != api.ErrForm || s != (lamport.Sig{}) {
		t.Errorf("%d bytes: %d", len(b), int(e))
	}
}

func TestEncodeKnown(t *testing.T) { // P4.2
	for _, c := range []struct {
		seed, message api.Digest
		digits        string
	}{
		{noughts, noughts, "0e53286b5f105793e2d6c0f9cf7cc87adb99f838d31f1a46f249102abddf3878"},
		{noughts, ones, "f94ff7e4b19324b03820a226adeef63e61206fc97d0422b888556db52f2dfcf6"},
		{ones, noughts, "1226f603a07e4cdd4543efa455b8ad422e747f42b35988f4ea4fd10ccacf3753"},
		{ones, ones, "6e2738cc6792c061690901a0d154c3e3543c65d35040bff94f1af2d033046423"},
		{counted(), counted(), "af851fa3c0d78b6f0e05bde1b6819035c6cc8c805b824c69c528bcba94623169"},
	} {
		is(t, "bytes", sha256.Sum256(lamport.Sign(c.seed, c.message).Encode()), c.digits)
	}
}

func TestEncode(t *testing.T) { // P4.2
	for i, s := range some() {
		if b := s.Encode(); len(b) != size || !bytes.Equal(b, wantEncode(s)) {
			t.Errorf("%d: %d bytes", i, len(b))
		}
	}
}

func TestEncodePlaces(t *testing.T) { // P4.2
	for place := range 256 {
		var s lamport.Sig
		s.Open[place] = sample(place)
		want := make([]byte, size)
		copy(want[32*place:], s.Open[place][:])
		if !bytes.Equal(s.Encode(), want) {
			t.Errorf("Open at %d", place)
		}
		s.Open[place], s.Rest[place] = noughts, s.Open[place]
		want = make([]byte, size)
		copy(want[32*256+32*place:], s.Rest[place][:])
		if !bytes.Equal(s.Encode(), want) {
			t.Errorf("Rest at %d", place)
		}
	}
}

func TestDecodePlaces(t *testing.T) { // P4.2
	for i := range 512 {
		b := make([]byte, size)
		d := sample(i)
		copy(b[32*i:], d[:])
		var want lamport.Sig
		if i < 256 {
			want.Open[i] = d
		} else {
			want.Rest[i-256] = d
		}
		if s, e := lamport.Decode(b); e != api.OK || s != want {
			t.Errorf("digest %d: %d", i, int(e))
		}
	}
}

func TestDecodeOfEncode(t *testing.T) { // P4.3
	for i, s := range some() {
		if back, e := lamport.Decode(s.Encode()); e != api.OK || back != s {
			t.Errorf("%d: %d", i, int(e))
		}
	}
}

func TestEncodeOfDecode(t *testing.T) { // P4.3
	for _, b := range [][]byte{make([]byte, size), bytes.Repeat([]byte{255}, size), anyBytes(size), anyBytes(size + 1)[1:]} {
		s, e := lamport.Decode(b)
		if e != api.OK || !bytes.Equal(s.Encode(), b) {
			t.Errorf("% x..: %d", b[:8], int(e))
		}
	}
}

func TestDecodedSignatureIsRight(t *testing.T) { // P4.3
	seed := sample(21)
	for _, message := range messages() {
		s, e := lamport.Decode(lamport.Sign(seed, message).Encode())
		if e != api.OK || lamport.Key(message, s) != lamport.Public(seed) {
			t.Errorf("%x: %d", message, int(e))
		}
	}
}

func TestDecodeWrongLength(t *testing.T) { // P4.2
	refuseDecode(t, nil)
	for n := range 600 {
		refuseDecode(t, anyBytes(n))
	}
	for _, n := range []int{4096, 8160, 8191, 8192, 8193, 16320, 16352, 2*size - 1, 2 * size, 2*size + 1, 3 * size, api.MaxText} {
		refuseDecode(t, anyBytes(n))
	}
	for n := size - 70; n < size+70; n++ {
		if n != size {
			refuseDecode(t, anyBytes(n))
		}
	}
}

// TestDecodeCountsNoRoom holds that a length counts, and not the room behind it.
func TestDecodeCountsNoRoom(t *testing.T) { // P4.2, R2
	all := anyBytes(2 * size)
	before := bytes.Clone(all)
	refuseDecode(t, all[:size-1])
	refuseDecode(t, all[:0])
	if s, e := lamport.Decode(all[:size]); e != api.OK || !bytes.Equal(s.Encode(), before[:size]) {
		t.Error(int(e))
	}
	if !bytes.Equal(all, before) {
		t.Error("written into, or behind")
	}
}

func TestDecodeKeepsNoBytes(t *testing.T) { // R2
	b := anyBytes(size)
	s, _ := lamport.Decode(b)
	clear(b)
	if !bytes.Equal(s.Encode(), anyBytes(size)) {
		t.Error("it still reads what was handed in")
	}
}

func TestEncodeIsTheCallers(t *testing.T) { // R2
	s := someSig()
	b := s.Encode()
	again := s.Encode()
	_ = append(b, 1)
	clear(b)
	if s != someSig() || !bytes.Equal(again, wantEncode(s)) || !bytes.Equal(s.Encode(), again) {
		t.Error("two answers share their bytes, or the signature is another one")
	}
}

func FuzzDecode(f *testing.F) { // P4.2, P4.3
	f.Add([]byte(nil))
	f.Add(anyBytes(size - 1))
	f.Add(anyBytes(size))
	f.Add(anyBytes(size + 1))
	f.Fuzz(func(t *testing.T, b []byte) {
		if len(b) != size {
			refuseDecode(t, b)
		}
		whole := make([]byte, size)
		copy(whole, b)
		s, e := lamport.Decode(whole)
		if e != api.OK || !bytes.Equal(s.Encode(), whole) || !bytes.Equal(wantEncode(s), whole) {
			t.Errorf("%d bytes: %d", len(b), int(e))
		}
	})
}
