package sha

import (
	"strings"

	"cupel/api"
)

const hexDigits = "0123456789abcdef"

// Hex is a digest in hexadecimal digits.
func Hex(d api.Digest) string {
	var text [2 * len(d)]byte
	for i, x := range d {
		text[2*i] = hexDigits[x>>4]
		text[2*i+1] = hexDigits[x&15]
	}
	return string(text[:])
}

// Unhex is the digest of such digits.
func Unhex(s string) (api.Digest, api.Errno) {
	var d api.Digest
	if len(s) != 2*len(d) {
		return api.Digest{}, api.ErrForm
	}
	for i := range d {
		high := strings.IndexByte(hexDigits, s[2*i])
		low := strings.IndexByte(hexDigits, s[2*i+1])
		if high < 0 || low < 0 {
			return api.Digest{}, api.ErrForm
		}
		d[i] = byte(high<<4 | low)
	}
	return d, api.OK
}
