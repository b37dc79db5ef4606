package cbor

import (
	"bytes"
	"unicode/utf8"

	"latchkey/api"
)

// reader goes through bytes: those that are not read yet, how many items have begun, and how many arrays and maps are open.
type reader struct {
	rest  []byte
	items int
	open  int
}

// take: reads so many bytes; false: there are fewer.
func (r *reader) take(size uint64) ([]byte, bool) {
	if size > uint64(len(r.rest)) {
		return nil, false
	}
	taken := r.rest[:size]
	r.rest = r.rest[size:]
	return taken, true
}

// item: reads one, which should begin here.
func (r *reader) item() (api.Item, api.Errno) {
	if r.items == api.MaxItems {
		return api.Item{}, api.ErrMany
	}
	r.items++
	taken, ok := r.take(1)
	if !ok {
		return api.Item{}, api.ErrCbor
	}
	first := taken[0]
	if first>>lowBits == wordsKind {
		return word(first)
	}
	n, err := r.number(first & lowMask)
	if err != api.OK {
		return api.Item{}, err
	}
	return r.behindNumber(itemKind(first>>lowBits), n)
}

// word: the item that is this byte alone.
func word(first byte) (api.Item, api.Errno) {
	if first < falseForm || first > nullForm {
		return api.Item{}, api.ErrCbor
	}
	return api.Item{Kind: wordKind(first)}, api.OK
}

// number: reads one, of which the first byte's low bits are these.
func (r *reader) number(low byte) (uint64, api.Errno) {
	if low < sizeMark {
		return uint64(low), api.OK
	}
	if low > greatestMark {
		return 0, api.ErrCbor
	}
	digits, ok := r.take(1 << (low - sizeMark))
	if !ok {
		return 0, api.ErrCbor
	}
	var n uint64
	for _, digit := range digits {
		n = n<<digitBits | uint64(digit)
	}
	if sizeOf(n) < len(digits) {
		return 0, api.ErrShort
	}
	return n, api.OK
}

// behindNumber: reads what an item of this kind has behind its number.
func (r *reader) behindNumber(kind api.ItemKind, n uint64) (api.Item, api.Errno) {
	switch kind {
	case api.CUint, api.CNeg:
		return api.Item{Kind: kind, N: n}, api.OK
	case api.CBytes, api.CText:
		taken, ok := r.take(n)
		if !ok {
			return api.Item{}, api.ErrCbor
		}
		if kind == api.CText && !utf8.Valid(taken) {
			return api.Item{}, api.ErrText
		}
		return api.Item{Kind: kind, B: bytes.Clone(taken)}, api.OK
	case api.CArray, api.CMap:
		kids, err := r.kids(kind, n)
		return api.Item{Kind: kind, Kids: kids}, err
	}
	// Kind 6 of forms has a number, but is none of items.
	return api.Item{}, api.ErrCbor
}

// kids: reads those of an array or a map, of which there are so many, or pairs of them. The count may be far beyond what is there: no room is made ahead.
func (r *reader) kids(kind api.ItemKind, count uint64) ([]api.Item, api.Errno) {
	if r.open == api.MaxNest {
		return nil, api.ErrDeep
	}
	r.open++
	defer func() { r.open-- }()
	var kids []api.Item
	for range count {
		if kind == api.CMap {
			key, err := r.key(kids)
			if err != api.OK {
				return nil, err
			}
			kids = append(kids, key)
		}
		value, err := r.item()
		if err != api.OK {
			return nil, err
		}
		kids = append(kids, value)
	}
	return kids, api.OK
}

// key: reads a map's next one, behind the keys and values ahead of it.
func (r *reader) key(ahead []api.Item) (api.Item, api.Errno) {
	key, err := r.item()
	if err != api.OK {
		return api.Item{}, err
	}
	return key, keyError(ahead, key)
}
