package sha_test

import (
	"encoding/hex"
	"strings"
	"testing"

	"cupel/api"
	"cupel/sha"
)

func TestHex(t *testing.T) { // P1.2
	var d api.Digest
	if s := sha.Hex(d); s != strings.Repeat("0", 64) {
		t.Error(s)
	}
	for i := range d {
		for x := range 256 {
			d = api.Digest{}
			d[i] = byte(x)
			s := sha.Hex(d)
			if s != hex.EncodeToString(d[:]) {
				t.Fatal(i, x, s)
			}
		}
	}
	if s := sha.Hex(sha.Sum([]byte("abc"))); s != "ba7816bf8f01cfea414140de5dae2223b00361a396177a9cb410ff61f20015ad" {
		t.Error(s)
	}
}

func TestHexAndBack(t *testing.T) { // P1.3
	for n := range 300 {
		d := sha.Sum(sample(n))
		s := sha.Hex(d)
		back, e := sha.Unhex(s)
		if back != d || e != api.OK {
			t.Fatal(s, back, int(e))
		}
		if again := sha.Hex(back); again != s {
			t.Fatal(s, again)
		}
	}
	for _, s := range []string{strings.Repeat("0", 64), strings.Repeat("f", 64), strings.Repeat("0123456789abcdef", 4)} {
		if d, e := sha.Unhex(s); e != api.OK || sha.Hex(d) != s {
			t.Error(s, sha.Hex(d), int(e))
		}
	}
}

func TestUnhexWrongLength(t *testing.T) { // P1.2
	for n := range 200 {
		if n == 64 {
			continue
		}
		refuse(t, strings.Repeat("a", n))
	}
}

func TestUnhexWrongDigit(t *testing.T) { // P1.2
	const digits = "0123456789abcdef"
	right := strings.Repeat(digits, 4)
	for i := range len(right) {
		for x := range 256 {
			s := right[:i] + string([]byte{byte(x)}) + right[i+1:]
			if strings.IndexByte(digits, byte(x)) < 0 {
				refuse(t, s)
			} else if d, e := sha.Unhex(s); e != api.OK || sha.Hex(d) != s {
				t.Errorf("%q: %x %d", s, d, int(e))
			}
		}
	}
}

func TestUnhexWrongTexts(t *testing.T) { // P1.2
	right := sha.Hex(sha.Sum(nil))
	for _, s := range []string{
		"",
		" " + right,
		right + " ",
		right + "\n",
		"0x" + right,
		"0x" + right[2:],
		" " + right[1:],
		"+" + right[1:],
		right[:63] + "\x00",
		right + right,
		strings.ToUpper(right),
		strings.Repeat("\u00e9", 32),
		strings.Repeat("\uff10", 64),
	} {
		refuse(t, s)
	}
}

// refuse holds Unhex to its error, and to a digest of noughts beside it.
func refuse(t *testing.T, s string) {
	t.Helper()
	if d, e := sha.Unhex(s); e != api.ErrForm || d != (api.Digest{}) {
		t.Errorf("%q: %x %d", s, d, int(e))
	}
}

func FuzzUnhex(f *testing.F) { // P1.2, P1.3
	f.Add("")
	f.Add(strings.Repeat("0a", 32))
	f.Add(strings.Repeat("0A", 32))
	f.Fuzz(func(t *testing.T, s string) {
		d, e := sha.Unhex(s)
		if e == api.OK && sha.Hex(d) != s {
			t.Errorf("%q is not %q", s, sha.Hex(d))
		}
		if e != api.OK && (e != api.ErrForm || d != (api.Digest{})) {
			t.Errorf("%q: %x %d", s, d, int(e))
		}
	})
}
