package cert

import (
	"slices"

	"latchkey/api"
	"latchkey/der"
)

// pieces: what stands in a sequence of so many pieces; false: it is none.
func pieces(t api.Tlv, fewest, most int) ([]api.Tlv, bool) {
	if t.Tag != der.TSeq {
		return nil, false
	}
	l, err := der.List(t.Body)
	return l, err == api.OK && len(l) >= fewest && len(l) <= most
}

// onlyPiece: the piece that the bytes are; false: they are no piece, or something is left.
func onlyPiece(b []byte) (api.Tlv, bool) {
	t, rest, err := der.Read(b)
	return t, err == api.OK && len(rest) == 0
}

// wholeBits: the bytes of a BIT STRING; false: it is none, or bits are left over.
func wholeBits(t api.Tlv) ([]byte, bool) {
	b, left, err := der.Bits(t)
	return b, err == api.OK && left == 0
}

// isTrue: whether it is the BOOLEAN true. One that is false isn't written, as it is what holds without it.
func isTrue(t api.Tlv) bool {
	yes, err := der.Bool(t)
	return err == api.OK && yes
}

// isRow: whether an OID is just these numbers.
func isRow(oid []uint64, row ...uint64) bool {
	return slices.Equal(oid, row)
}
