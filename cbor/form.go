package cbor

import (
	"math"

	"latchkey/api"
)

// An item's first byte: its kind above lowBits others, which are a number below sizeMark, or one from sizeMark to greatestMark: the number is in 1, 2, 4, 8 bytes behind.
const (
	lowBits      = 5
	lowMask      = 1<<lowBits - 1
	sizeMark     = 24
	greatestMark = 27
	digitBits    = 8
)

// The first bytes of items that are a byte alone.
const (
	falseForm = 0xf4
	nullForm  = 0xf6
	wordsKind = falseForm >> lowBits
)

// formKind: a kind as forms number it, from 0 on, in the order in which api does from 1 on.
func formKind(kind api.ItemKind) byte { return byte(kind - api.CUint) }

// itemKind: formKind's other way.
func itemKind(kind byte) api.ItemKind { return api.CUint + api.ItemKind(kind) }

// wordForm: the byte that false, true or null is.
func wordForm(kind api.ItemKind) byte { return falseForm + byte(kind-api.CFalse) }

// wordKind: wordForm's other way.
func wordKind(form byte) api.ItemKind { return api.CFalse + api.ItemKind(form-falseForm) }

// sizeOf: how many bytes a number has behind the first one, if it is as short as may be.
func sizeOf(n uint64) int {
	size := 1
	switch {
	case n < sizeMark:
		return 0
	case n > math.MaxUint32:
		size *= 2
		fallthrough
	case n > math.MaxUint16:
		size *= 2
		fallthrough
	case n > math.MaxUint8:
		size *= 2
	}
	return size
}
