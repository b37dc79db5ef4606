package cert

import (
	"slices"

	"latchkey/api"
	"latchkey/cose"
	"latchkey/curve"
	"latchkey/der"
	"latchkey/rsa"
)

const (
	fewestOfAlg  = 1
	mostOfAlg    = 2 // with NULL
	keyPieces    = 2
	kindPieces   = 2
	numberPieces = 2
	pointMark    = 4 // stands ahead of a point's two numbers
)

// readAlg: by what it is signed.
func (r *reading) readAlg(t api.Tlv) api.Errno {
	l, ok := pieces(t, fewestOfAlg, mostOfAlg)
	if !ok {
		return api.ErrCert
	}
	oid, err := der.Oid(l[0])
	if err != api.OK {
		return api.ErrCert
	}
	switch {
	case isRow(oid, 1, 2, 840, 10045, 4, 3, 2) && len(l) == fewestOfAlg:
		r.Alg = 0
	case isRow(oid, 1, 2, 840, 113549, 1, 1, 11) && len(l) == mostOfAlg && isNull(l[1]):
		r.Alg = api.AlgRsa
	default:
		return api.ErrAlg
	}
	return api.OK
}

// readKey: whose key it is. All that both kinds have in common must be right ahead of what kind it is.
func (r *reading) readKey(t api.Tlv) api.Errno {
	l, ok := pieces(t, keyPieces, keyPieces)
	if !ok {
		return api.ErrCert
	}
	kind, ok := pieces(l[0], kindPieces, kindPieces)
	if !ok {
		return api.ErrCert
	}
	oid, err := der.Oid(kind[0])
	if err != api.OK {
		return api.ErrCert
	}
	bits, ok := wholeBits(l[1])
	if !ok {
		return api.ErrCert
	}
	switch {
	case isRow(oid, 1, 2, 840, 10045, 2, 1):
		return r.readPoint(kind[1], bits)
	case isRow(oid, 1, 2, 840, 113549, 1, 1, 1) && isNull(kind[1]):
		return r.readPowers(bits)
	}
	return api.ErrAlg
}

// readPoint: a key by points, of the curve that name tells.
func (r *reading) readPoint(name api.Tlv, bits []byte) api.Errno {
	oid, err := der.Oid(name)
	if err != api.OK {
		return api.ErrCert
	}
	place := slices.IndexFunc(r.curves, func(c api.Curve) bool { return slices.Equal(c.Oid, oid) })
	if place < 0 {
		return api.ErrAlg
	}
	c := r.curves[place]
	size := curve.Size(c)
	if len(bits) != 1+2*size || bits[0] != pointMark {
		return api.ErrKey
	}
	r.Key, err = cose.Point(place, c, bits[1:1+size], bits[1+size:])
	return err
}

// readPowers: a key by powers.
func (r *reading) readPowers(bits []byte) api.Errno {
	l, err := der.Seq(bits)
	if err != api.OK || len(l) != numberPieces {
		return api.ErrKey
	}
	n, errN := der.Int(l[0])
	e, errE := der.Int(l[1])
	if errN != api.OK || errE != api.OK {
		return api.ErrKey
	}
	r.Key = api.Key{Kind: api.KRsa, Rsa: api.RsaKey{N: n, E: e}}
	return rsa.Check(r.Key.Rsa)
}

// isNull: whether it is a NULL.
func isNull(t api.Tlv) bool {
	return t.Tag == der.TNull && len(t.Body) == 0
}
