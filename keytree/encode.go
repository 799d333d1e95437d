package keytree

import (
	"cupel/api"
	"cupel/codec"
	"cupel/lamport"
)

const (
	digestSize = 32 // bytes of a digest
	pieceCount = 3  // the key's number, the signature, and the path
)

// Encode is a signature as bytes.
func (x Signed) Encode() []byte {
	return codec.Join(codec.Numbers(x.Index), x.Sig.Encode(), encodePath(x.Path))
}

// Decode is the signature of bytes.
func Decode(b []byte) (Signed, api.Errno) {
	pieces, e := codec.Split(b)
	if e != api.OK || len(pieces) != pieceCount {
		return Signed{}, api.ErrForm
	}
	index, indexError := decodeIndex(pieces[0])
	sig, sigError := lamport.Decode(pieces[1])
	path, pathError := decodePath(pieces[2])
	if indexError != api.OK || sigError != api.OK || pathError != api.OK {
		return Signed{}, api.ErrForm
	}
	return Signed{Index: index, Sig: sig, Path: path}, api.OK
}

// decodeIndex is the one number of such bytes.
func decodeIndex(b []byte) (int, api.Errno) {
	l, e := codec.Ints(b)
	if e != api.OK || len(l) != 1 {
		return 0, api.ErrForm
	}
	return l[0], api.OK
}

// encodePath is digests, one behind the other.
func encodePath(path []api.Digest) []byte {
	b := make([]byte, 0, digestSize*len(path))
	for _, d := range path {
		b = append(b, d[:]...)
	}
	return b
}

// decodePath is the digests of such bytes.
func decodePath(b []byte) ([]api.Digest, api.Errno) {
	if len(b)%digestSize != 0 {
		return nil, api.ErrForm
	}
	path := make([]api.Digest, len(b)/digestSize)
	for i := range path {
		copy(path[i][:], b[digestSize*i:])
	}
	return path, api.OK
}
