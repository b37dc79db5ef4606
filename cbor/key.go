package cbor

import (
	"bytes"
	"cmp"

	"latchkey/api"
)

// mayBeKey: whether an item is of a kind that keys have.
func mayBeKey(i api.Item) bool {
	return isNumber(i) || i.Kind == api.CBytes || i.Kind == api.CText
}

func isNumber(i api.Item) bool {
	return i.Kind == api.CUint || i.Kind == api.CNeg
}

// keyError: what is wrong with a map's key, behind the keys and values ahead of it.
func keyError(ahead []api.Item, key api.Item) api.Errno {
	if !mayBeKey(key) {
		return api.ErrCbor
	}
	if len(ahead) > 0 && compareKeys(ahead[len(ahead)-2], key) >= 0 {
		return api.ErrOrder
	}
	return api.OK
}

// compareKeys: below 0, 0 or above 0, as keys rise, are the same or fall. Kinds are numbered as their keys rise.
func compareKeys(a, b api.Item) int {
	if order := cmp.Compare(a.Kind, b.Kind); order != 0 {
		return order
	}
	if isNumber(a) {
		return cmp.Compare(a.N, b.N)
	}
	return cmp.Or(cmp.Compare(len(a.B), len(b.B)), bytes.Compare(a.B, b.B))
}
