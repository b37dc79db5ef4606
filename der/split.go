package der

import "latchkey/api"

const (
	// tagMask: a tag's bits that aren't all set; where they are, more of the tag would stand behind it.
	tagMask = 0x1f
	// manyMark: a first byte of a length from here on tells how many bytes of it stand behind; one below is the length.
	manyMark = 0x80
	// maxDigits: how many bytes of a length may stand behind its first one.
	maxDigits = 2
	digitBits = 8
)

// split: the piece with which bytes begin, and what is left, in the memory that is handed in. ErrLong: more bytes than there may be; ErrDer: they begin with no piece.
func split(b []byte) (api.Tlv, []byte, api.Errno) {
	if len(b) > api.MaxDer {
		return api.Tlv{}, nil, api.ErrLong
	}
	if len(b) == 0 || !isTag(b[0]) {
		return api.Tlv{}, nil, api.ErrDer
	}
	size, rest, ok := splitLength(b[1:])
	if !ok || size > len(rest) {
		return api.Tlv{}, nil, api.ErrDer
	}
	return api.Tlv{Tag: b[0], Body: rest[:size]}, rest[size:], api.OK
}

// splitLength: the length with which bytes begin, and what is left; false: they begin with none, or with one that may be shorter.
func splitLength(b []byte) (int, []byte, bool) {
	if len(b) == 0 {
		return 0, nil, false
	}
	first, rest := int(b[0]), b[1:]
	if first < manyMark {
		return first, rest, true
	}
	digits := first - manyMark
	if digits > min(maxDigits, len(rest)) {
		return 0, nil, false
	}
	size := 0
	for _, digit := range rest[:digits] {
		size = size<<digitBits | int(digit)
	}
	return size, rest[digits:], digits > 0 && digits == digitsOf(size)
}

// lengthForm: a length as bytes; of one that no piece may have, as many as of the greatest.
func lengthForm(size int) []byte {
	digits := digitsOf(size)
	if digits == 0 {
		return []byte{byte(size)}
	}
	form := []byte{byte(manyMark + digits)}
	for at := range digits {
		form = append(form, byte(size>>(digitBits*(digits-1-at))))
	}
	return form
}

// digitsOf: how many bytes of a length stand behind its first one, if it is as short as may be.
func digitsOf(size int) int {
	if size < manyMark {
		return 0
	}
	if size < 1<<digitBits {
		return 1
	}
	return maxDigits
}

// isTag: whether a byte is a tag.
func isTag(b byte) bool { return b&tagMask != tagMask }
