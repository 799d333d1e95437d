package keytree

import (
	"cupel/api"
	"cupel/lamport"
	"cupel/merkle"
)

// fault is something that may be wrong with a signature. Whether it is there is asked only if none ahead of it is.
type fault struct {
	e     api.Errno
	there func() bool
}

// Check tells what is wrong with a signature.
func Check(root api.Digest, high int, message api.Digest, x Signed) api.Errno {
	wrong := api.OK
faults:
	for _, f := range [...]fault{
		{api.ErrRange, func() bool { return !hasKey(high, x.Index) }},
		// All parts of a tree of keys being full, a proof has a digest for each height.
		{api.ErrProof, func() bool { return len(x.Path) != high }},
		{api.ErrSign, func() bool { return !x.leadsTo(root, high, message) }},
	} {
		if f.there() {
			wrong = f.e
			break faults
		}
	}
	return wrong
}

// leadsTo tells whether the key by which the signature is right of a message leads to the root.
func (x Signed) leadsTo(root api.Digest, high int, message api.Digest) bool {
	key := lamport.Key(message, x.Sig)
	d, e := merkle.Fold(keyCount(high), x.Index, key[:], x.Path)
	return e == api.OK && d == root
}
