package nat

import "latchkey/api"

// limbBytes: how many bytes a limb has.
const limbBytes = limbBits / 8

// maxBytes: how many bytes are read or written at most.
const maxBytes = limbBytes * api.MaxLimbs

// Read: bytes as a number, the greatest first; ErrLong: more limbs than may be.
func Read(b []byte) (api.Nat, api.Errno) {
	if len(b) > maxBytes {
		return nil, api.ErrLong
	}
	out := make(api.Nat, (len(b)+limbBytes-1)/limbBytes)
	for place := range len(b) {
		digit := uint64(b[len(b)-1-place])
		out[place/limbBytes] |= digit << (8 * (place % limbBytes))
	}
	return trim(out), api.OK
}

// Bytes: a number as so many bytes, the greatest first; false: it has more, or there may not be so many.
func Bytes(a api.Nat, size int) ([]byte, bool) {
	if size < 0 || size > maxBytes || Len(a) > 8*size {
		return nil, false
	}
	out := make([]byte, size)
	for place := range size {
		digit := limb(a, place/limbBytes) >> (8 * (place % limbBytes))
		out[size-1-place] = byte(digit)
	}
	return out, true
}
