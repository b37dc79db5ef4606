package der

import (
	"bytes"

	"latchkey/api"
	"latchkey/nat"
)

const (
	// signBit: the first byte of a number below 0 has it; so a 00 stands ahead of one that has it and isn't below 0.
	signBit = 0x80
	// moreBit: each byte of a row but its last one has it.
	moreBit = 0x80
	rowBits = 7
	// maxRow: the greatest number of a row.
	maxRow = 1<<63 - 1
	// perRoot, lastRoot: the first row holds two numbers: one up to lastRoot, taken perRoot times, and one that is added to it.
	perRoot  = 40
	lastRoot = 2
	// maxSpare: how many of the last byte's bits may be none.
	maxSpare  = 7
	falseByte = 0x00
	trueByte  = 0xff
)

// Int: a number, not below 0. ErrDer: it is none, or may be shorter; ErrLong: more bytes than are read.
func Int(t api.Tlv) (api.Nat, api.Errno) {
	digits := t.Body
	if t.Tag != TInt || len(digits) == 0 || digits[0] >= signBit {
		return nil, api.ErrDer
	}
	if digits[0] == 0 && len(digits) > 1 {
		digits = digits[1:]
		if digits[0] < signBit {
			return nil, api.ErrDer
		}
	}
	return nat.Read(digits)
}

// Oid: a row of numbers. ErrDer: it is none; ErrMany: more numbers than there may be.
func Oid(t api.Tlv) ([]uint64, api.Errno) {
	if t.Tag != TOid || len(t.Body) == 0 {
		return nil, api.ErrDer
	}
	var numbers []uint64
	rest := t.Body
	for len(rest) > 0 {
		row, left, ok := splitRow(rest)
		if !ok {
			return nil, api.ErrDer
		}
		// A fault may stand behind numbers that are too many, so all rows are read; but one too many is enough to tell that there are more.
		if len(numbers) <= api.MaxOid {
			numbers = appendRow(numbers, row)
		}
		rest = left
	}
	if len(numbers) > api.MaxOid {
		return nil, api.ErrMany
	}
	return numbers, api.OK
}

// appendRow: the numbers, and those of the next row: two of the first one, one of each other.
func appendRow(numbers []uint64, row uint64) []uint64 {
	if len(numbers) > 0 {
		return append(numbers, row)
	}
	root := min(row/perRoot, lastRoot)
	return append(numbers, root, row-root*perRoot)
}

// splitRow: the number of the row with which bytes begin, and what is left; false: they begin with none.
func splitRow(b []byte) (uint64, []byte, bool) {
	var number uint64
	for at, digit := range b {
		// A first byte without a bit of the number might be left out.
		if at == 0 && digit == moreBit || number > maxRow>>rowBits {
			return 0, nil, false
		}
		number = number<<rowBits | uint64(digit&^moreBit)
		if digit < moreBit {
			return number, b[at+1:], true
		}
	}
	return 0, nil, false
}

// Bits: bytes, and how many bits of the last one are none. ErrDer: it is none, or those bits aren't 0.
func Bits(t api.Tlv) ([]byte, int, api.Errno) {
	if t.Tag != TBits || len(t.Body) == 0 {
		return nil, 0, api.ErrDer
	}
	spare, octets := int(t.Body[0]), t.Body[1:]
	if spare > maxSpare || !endsInZeros(octets, spare) {
		return nil, 0, api.ErrDer
	}
	return bytes.Clone(octets), spare, api.OK
}

// endsInZeros: whether so many lowest bits of the last byte are there, and 0.
func endsInZeros(octets []byte, count int) bool {
	if len(octets) == 0 {
		return count == 0
	}
	mask := byte(1)<<count - 1
	return octets[len(octets)-1]&mask == 0
}

// Bool: yes or no. ErrDer: it is neither.
func Bool(t api.Tlv) (bool, api.Errno) {
	if t.Tag != TBool || len(t.Body) != 1 {
		return false, api.ErrDer
	}
	switch t.Body[0] {
	case trueByte:
		return true, api.OK
	case falseByte:
		return false, api.OK
	}
	return false, api.ErrDer
}
