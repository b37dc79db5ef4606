package cert

import (
	"slices"

	"latchkey/api"
	"latchkey/cose"
	"latchkey/curve"
	"latchkey/der"
	"latchkey/rsa"
)

const (
	keyPieces     = 2
	numberPieces  = 2
	fewestOfNamed = 1
	mostOfNamed   = 2
	pointMark     = 4 // stands ahead of a point's two numbers
)

// readAlg: by what it is signed.
func (r *reading) readAlg(t api.Tlv) api.Errno {
	oid, more, ok := named(t)
	if !ok {
		return api.ErrCert
	}
	switch {
	case isRow(oid, 1, 2, 840, 10045, 4, 3, 2) && len(more) == 0:
		r.Alg = 0
	case isRow(oid, 1, 2, 840, 113549, 1, 1, 11) && isNull(more):
		r.Alg = api.AlgRsa
	default:
		return api.ErrAlg
	}
	return api.OK
}

// readKey: whose key it is.
func (r *reading) readKey(t api.Tlv) api.Errno {
	l, ok := pieces(t, keyPieces, keyPieces)
	if !ok {
		return api.ErrCert
	}
	oid, more, ok := named(l[0])
	if !ok {
		return api.ErrCert
	}
	switch {
	case isRow(oid, 1, 2, 840, 10045, 2, 1):
		return r.readPoint(more, l[1])
	case isRow(oid, 1, 2, 840, 113549, 1, 1, 1) && isNull(more):
		return r.readPowers(l[1])
	}
	return api.ErrAlg
}

// readPoint: a key by points, of the curve that more names. That the bits are some comes ahead of the curve, as the chapter has it.
func (r *reading) readPoint(more []api.Tlv, t api.Tlv) api.Errno {
	bits, ok := wholeBits(t)
	if !ok || len(more) == 0 {
		return api.ErrCert
	}
	oid, err := der.Oid(more[0])
	if err != api.OK {
		return api.ErrCert
	}
	place := slices.IndexFunc(r.curves, func(c api.Curve) bool { return slices.Equal(c.Oid, oid) })
	if place < 0 {
		return api.ErrAlg
	}
	c := r.curves[place]
	size := curve.Size(c)
	if len(bits) != 1+2*size || bits[0] != pointMark {
		return api.ErrKey
	}
	r.Key, err = cose.Point(place, c, bits[1:1+size], bits[1+size:])
	return err
}

// readPowers: a key by powers.
func (r *reading) readPowers(t api.Tlv) api.Errno {
	bits, ok := wholeBits(t)
	if !ok {
		return api.ErrCert
	}
	l, err := der.Seq(bits)
	if err != api.OK || len(l) != numberPieces {
		return api.ErrKey
	}
	n, errN := der.Int(l[0])
	e, errE := der.Int(l[1])
	if errN != api.OK || errE != api.OK {
		return api.ErrKey
	}
	r.Key = api.Key{Kind: api.KRsa, Rsa: api.RsaKey{N: n, E: e}}
	return rsa.Check(r.Key.Rsa)
}

// named: a sequence's OID, and the piece behind it, if there is one; false: it is no such sequence.
func named(t api.Tlv) (oid []uint64, more []api.Tlv, ok bool) {
	l, ok := pieces(t, fewestOfNamed, mostOfNamed)
	if !ok {
		return nil, nil, false
	}
	oid, err := der.Oid(l[0])
	return oid, l[1:], err == api.OK
}

// isNull: whether just a NULL stands behind an OID.
func isNull(more []api.Tlv) bool {
	return len(more) == 1 && more[0].Tag == der.TNull && len(more[0].Body) == 0
}
