package jsons

import (
	"bytes"
	"strings"
	"unicode/utf8"
)

const (
	quote      = `"`
	escapeMark = `\`
	unitMark   = `u`
)

// The halves of a sign in UTF-16, of halfBits bits each: from highHalf on the high ones, from lowHalf on the low ones.
const (
	highHalf     = 0xd800
	lowHalf      = 0xdc00
	behindHalves = 0xe000
	halfBits     = 10
	firstOfTwo   = 0x10000 // the first sign that has two halves
)

// text: reads one between its quotes: what it means; false: it isn't right.
func (r *reader) text() (string, bool) {
	if !r.take(quote) {
		return "", false
	}
	var text strings.Builder
	for !r.take(quote) {
		sign, ok := r.sign()
		if !ok {
			return "", false
		}
		text.WriteRune(sign)
	}
	return text.String(), true
}

// sign: reads a text's next one: what it means; false: there is none, or it isn't right.
func (r *reader) sign() (rune, bool) {
	if r.take(escapeMark) {
		return r.escape()
	}
	sign, size := utf8.DecodeRune(r.rest)
	r.rest = r.rest[size:]
	// RuneError is a right sign too: then it is written in three bytes.
	right := sign != utf8.RuneError || size > 1
	return sign, right && sign >= ' '
}

// escape: reads what stands behind \ in a text: what it means; false: nothing.
func (r *reader) escape() (rune, bool) {
	switch {
	case r.take(unitMark):
		return r.escapedUnits()
	case r.take(quote):
		return '"', true
	case r.take(escapeMark):
		return '\\', true
	case r.take("/"):
		return '/', true
	case r.take("b"):
		return '\b', true
	case r.take("f"):
		return '\f', true
	case r.take("n"):
		return '\n', true
	case r.take("r"):
		return '\r', true
	case r.take("t"):
		return '\t', true
	}
	return 0, false
}

// escapedUnits: reads what stands behind \u in a text, with a second \u where there is a high half: what it means; false: nothing.
func (r *reader) escapedUnits() (rune, bool) {
	unit, ok := r.unit()
	if !ok || unit < highHalf || unit >= behindHalves {
		return unit, ok
	}
	if unit >= lowHalf || !r.take(escapeMark+unitMark) {
		return 0, false
	}
	low, ok := r.unit()
	if !ok || low < lowHalf || low >= behindHalves {
		return 0, false
	}
	return firstOfTwo + (unit-highHalf)<<halfBits + low - lowHalf, true
}

// unit: reads four digits of base sixteen; false: there are fewer.
func (r *reader) unit() (rune, bool) {
	var unit rune
	digit := func(first, last byte, value rune) bool { // first stands for value
		if len(r.rest) == 0 || r.rest[0] < first || r.rest[0] > last {
			return false
		}
		unit = unit*16 + value + rune(r.rest[0]-first)
		r.rest = r.rest[1:]
		return true
	}
	for range 4 {
		if !digit('0', '9', 0) && !digit('a', 'f', 10) && !digit('A', 'F', 10) {
			return 0, false
		}
	}
	return unit, true
}

// number: reads one, as it is written; false: it isn't right.
func (r *reader) number() (string, bool) {
	begun := r.rest
	digits := func() int {
		before := len(r.rest)
		r.rest = bytes.TrimLeft(r.rest, "0123456789")
		return before - len(r.rest)
	}
	r.take("-")
	zero := bytes.HasPrefix(r.rest, []byte("0"))
	whole := digits()
	right := whole == 1 || whole > 1 && !zero
	if r.take(".") {
		right = digits() > 0 && right
	}
	if r.take("e") || r.take("E") {
		if !r.take("+") {
			r.take("-")
		}
		right = digits() > 0 && right
	}
	return string(begun[:len(begun)-len(r.rest)]), right
}
