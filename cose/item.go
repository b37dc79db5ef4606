package cose

import (
	"latchkey/api"
	"latchkey/cbor"
)

// The keys of a key's map (RFC 9052, 7.1; RFC 9053, 7.1.1; RFC 8230, 4): those below 0 mean something else in each type.
const (
	labelType = 1
	labelAlg  = 3
	labelCrv  = -1
	labelX    = -2
	labelY    = -3
	labelN    = -1
	labelE    = -2
)

// The types of keys, and how many Kids their maps have: as all of their keys are looked for, so many leave no room for another one.
const (
	typeEc  = 2
	typeRsa = 3
	kidsEc  = 10
	kidsRsa = 8
)

// isOfType: whether an item is a map of so many Kids that tells that type.
func isOfType(i api.Item, keyType int64, kids int) bool {
	return i.Kind == api.CMap && len(i.Kids) == kids && isNumber(value(i, labelType), keyType)
}

// value: the value of a map's key; where there is none, an item of no kind, which is no number and no bytes.
func value(i api.Item, label int64) api.Item {
	found, _ := cbor.Get(i, cbor.Number(label))
	return found
}

// isNumber: whether an item is just that number.
func isNumber(i api.Item, n int64) bool {
	want := cbor.Number(n)
	return i.Kind == want.Kind && i.N == want.N
}

// octets: bytes as an item.
func octets(b []byte) api.Item { return api.Item{Kind: api.CBytes, B: b} }

// pair: a map's key and its value.
type pair struct {
	label int64
	value api.Item
}

// mapOf: the map of these pairs, in the order in which they are handed over.
func mapOf(pairs ...pair) api.Item {
	out := api.Item{Kind: api.CMap}
	for _, p := range pairs {
		out.Kids = append(out.Kids, cbor.Number(p.label), p.value)
	}
	return out
}
