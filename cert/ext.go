package cert

import (
	"math"
	"slices"

	"latchkey/api"
	"latchkey/der"
	"latchkey/nat"
)

const (
	fewestOfExts = 1
	mostOfExts   = math.MaxInt
	fewestOfExt  = 2
	mostOfExt    = 3 // with what says that it is critical
	mostOfCa     = 2
	pathSize     = 1
	modelSize    = 16
	signBit      = 0x04
)

// readExts: all extensions, one by one. That one piece stands around them is the body's grammar; what that piece is, is theirs.
func (r *reading) readExts(t api.Tlv) api.Errno {
	all, ok := onlyPiece(t.Body)
	if !ok || t.Tag != tExts {
		return api.ErrCert
	}
	l, ok := pieces(all, fewestOfExts, mostOfExts)
	if !ok {
		return api.ErrExt
	}
	for _, one := range l {
		if !r.readExt(one) {
			return api.ErrExt
		}
	}
	return api.OK
}

// readExt: one extension; false: it isn't right, or may not stand.
func (r *reading) readExt(t api.Tlv) bool {
	l, ok := pieces(t, fewestOfExt, mostOfExt)
	if !ok {
		return false
	}
	critical, octets := len(l) == mostOfExt, l[len(l)-1]
	oid, err := der.Oid(l[0])
	if err != api.OK || critical && !isTrue(l[1]) || octets.Tag != der.TOct || !r.isNew(oid) {
		return false
	}
	switch {
	case isRow(oid, 2, 5, 29, 19):
		return r.readCa(octets.Body)
	case isRow(oid, 2, 5, 29, 15):
		return r.readUse(octets.Body)
	case isRow(oid, 1, 3, 6, 1, 4, 1, 45724, 1, 1, 4):
		return r.readModel(octets.Body)
	}
	return !critical
}

// isNew: whether no extension had that name so far; from now on one has.
func (r *reading) isNew(oid []uint64) bool {
	if slices.ContainsFunc(r.seen, func(other []uint64) bool { return slices.Equal(other, oid) }) {
		return false
	}
	r.seen = append(r.seen, oid)
	return true
}

// readCa: whether it may vouch for others, and how many may stand below.
func (r *reading) readCa(b []byte) bool {
	l, err := der.Seq(b)
	switch {
	case err != api.OK || len(l) > mostOfCa:
		return false
	case len(l) == 0:
		return true
	}
	r.Ca = isTrue(l[0])
	if len(l) == mostOfCa {
		return r.Ca && r.readPath(l[1])
	}
	return r.Ca
}

// readPath: how many may stand below.
func (r *reading) readPath(t api.Tlv) bool {
	n, err := der.Int(t)
	if err != api.OK {
		return false
	}
	b, ok := nat.Bytes(n, pathSize)
	if ok {
		r.Path = int(b[0])
	}
	return ok
}

// readUse: whether the key may sign certificates.
func (r *reading) readUse(b []byte) bool {
	t, ok := onlyPiece(b)
	if !ok {
		return false
	}
	// How many bits are left over is of no matter, as they are 0.
	bits, _, err := der.Bits(t)
	if err != api.OK || len(bits) == 0 {
		return false
	}
	r.used, r.Sign = true, bits[0]&signBit != 0
	return true
}

// readModel: of which model the authenticator is.
func (r *reading) readModel(b []byte) bool {
	t, ok := onlyPiece(b)
	if !ok || t.Tag != der.TOct || len(t.Body) != modelSize {
		return false
	}
	r.Model = t.Body
	return true
}
