package cose

import (
	"latchkey/api"
	"latchkey/cbor"
	"latchkey/nat"
	"latchkey/rsa"
)

// readRsa: the key of a modulus' and an exponent's map. ErrAlg: it tells another number than RSA's; ErrKey: it is none.
func readRsa(i api.Item) (api.Key, api.Errno) {
	if !isNumber(value(i, labelAlg), api.AlgRsa) {
		return api.Key{}, api.ErrAlg
	}
	n, okN := readBare(value(i, labelN))
	e, okE := readBare(value(i, labelE))
	key := api.RsaKey{N: n, E: e}
	if !okN || !okE || rsa.Check(key) != api.OK {
		return api.Key{}, api.ErrKey
	}
	return api.Key{Kind: api.KRsa, Rsa: key}, api.OK
}

// readBare: the number of bytes without a 0 ahead; false: the item is none such, or more of them than are read.
func readBare(i api.Item) (api.Nat, bool) {
	if i.Kind != api.CBytes || len(i.B) > 0 && i.B[0] == 0 {
		return nil, false
	}
	number, err := nat.Read(i.B)
	return number, err == api.OK
}

// writeRsa: a modulus' and an exponent's map.
func writeRsa(k api.RsaKey) (api.Item, api.Errno) {
	if rsa.Check(k) != api.OK {
		return api.Item{}, api.ErrKey
	}
	return mapOf(
		pair{labelType, cbor.Number(typeRsa)},
		pair{labelAlg, cbor.Number(api.AlgRsa)},
		pair{labelN, writeBare(k.N)},
		pair{labelE, writeBare(k.E)},
	), api.OK
}

// writeBare: a number's bytes without a 0 ahead, as an item; numbers that rsa.Check takes are none that nat.Bytes refuses.
func writeBare(a api.Nat) api.Item {
	b, _ := nat.Bytes(a, (nat.Len(a)+7)/8)
	return octets(b)
}
