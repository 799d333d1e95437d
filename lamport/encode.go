package lamport

import (
	"cupel/api"
)

const (
	digestSize = 32 // bytes of a digest
	rowSize    = places * digestSize
	sigSize    = 2 * rowSize
)

// Encode is a signature as bytes.
func (s Sig) Encode() []byte {
	b := make([]byte, sigSize)
	s.eachDigest(b, func(d *api.Digest, its []byte) { copy(its, d[:]) })
	return b
}

// Decode is the signature of bytes.
func Decode(b []byte) (Sig, api.Errno) {
	if len(b) != sigSize {
		return Sig{}, api.ErrForm
	}
	var s Sig
	s.eachDigest(b, func(d *api.Digest, its []byte) { copy(d[:], its) })
	return s, api.OK
}

// eachDigest tells all digests, each with its bytes of b. Encode and Decode both stand on it, so that they can't differ in the order.
func (s *Sig) eachDigest(b []byte, tell func(d *api.Digest, its []byte)) {
	for place := range places {
		open := place * digestSize
		rest := rowSize + open
		tell(&s.Open[place], b[open:open+digestSize:open+digestSize])
		tell(&s.Rest[place], b[rest:rest+digestSize:rest+digestSize])
	}
}
