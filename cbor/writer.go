package cbor

import (
	"math/bits"
	"unicode/utf8"

	"latchkey/api"
)

// writer makes a form: what is written, as long as there is room for it, how many items have begun, and how many arrays and maps are open.
type writer struct {
	form  []byte
	long  bool
	items int
	open  int
}

// put: writes bytes. Those that are too many aren't held: the item is gone through to its end nonetheless, for what else is wrong with it.
func (w *writer) put(b ...byte) {
	if len(b) > api.MaxCbor-len(w.form) {
		w.long = true
		return
	}
	w.form = append(w.form, b...)
}

// item: writes one.
func (w *writer) item(i api.Item) api.Errno {
	if w.items == api.MaxItems {
		return api.ErrMany
	}
	w.items++
	switch i.Kind {
	case api.CUint, api.CNeg:
		w.number(i.Kind, i.N)
	case api.CBytes, api.CText:
		if i.Kind == api.CText && !utf8.Valid(i.B) {
			return api.ErrText
		}
		w.number(i.Kind, uint64(len(i.B)))
		w.put(i.B...)
	case api.CArray, api.CMap:
		return w.kids(i)
	case api.CFalse, api.CTrue, api.CNull:
		w.put(wordForm(i.Kind))
	default:
		return api.ErrCbor
	}
	return api.OK
}

// number: writes an item's kind and its number.
func (w *writer) number(kind api.ItemKind, n uint64) {
	first := formKind(kind) << lowBits
	size := sizeOf(n)
	if size == 0 {
		w.put(first | byte(n))
		return
	}
	w.put(first | byte(sizeMark+bits.TrailingZeros(uint(size))))
	for size > 0 {
		size--
		w.put(byte(n >> (digitBits * size)))
	}
}

// kids: writes an array or a map.
func (w *writer) kids(i api.Item) api.Errno {
	if w.open == api.MaxNest {
		return api.ErrDeep
	}
	count := len(i.Kids)
	if i.Kind == api.CMap {
		if count%2 != 0 {
			return api.ErrCbor
		}
		count /= 2
	}
	w.number(i.Kind, uint64(count))
	w.open++
	defer func() { w.open-- }()
	for at, kid := range i.Kids {
		if i.Kind == api.CMap && at%2 == 0 {
			if err := keyError(i.Kids[:at], kid); err != api.OK {
				return err
			}
		}
		if err := w.item(kid); err != api.OK {
			return err
		}
	}
	return api.OK
}
