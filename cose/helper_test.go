package cose_test

import (
	"bytes"
	"encoding/hex"
	"math/big"
	"slices"
	"strings"
	"testing"

	"latchkey/api"
	"latchkey/cbor"
	"latchkey/cose"
)

func unsigned(n uint64) api.Item { return api.Item{Kind: api.CUint, N: n} }

// negative: -1 - n.
func negative(n uint64) api.Item { return api.Item{Kind: api.CNeg, N: n} }

// integer: a number as an item, by the words of chapter 6.
func integer(n int64) api.Item {
	if n < 0 {
		return negative(uint64(-(n + 1)))
	}
	return unsigned(uint64(n))
}

func octets(b ...byte) api.Item { return api.Item{Kind: api.CBytes, B: b} }

func text(s string) api.Item { return api.Item{Kind: api.CText, B: []byte(s)} }

func pairs(kids ...api.Item) api.Item { return api.Item{Kind: api.CMap, Kids: kids} }

// pointItem: a point's item, whatever its values are.
func pointItem(alg, crv int64, x, y []byte) api.Item {
	return pairs(unsigned(1), unsigned(2), unsigned(3), integer(alg), negative(0), integer(crv), negative(1), octets(x...), negative(2), octets(y...))
}

// rsaItem: the item of a modulus and an exponent, whatever its values are.
func rsaItem(alg int64, n, e []byte) api.Item {
	return pairs(unsigned(1), unsigned(3), unsigned(3), integer(alg), negative(0), octets(n...), negative(1), octets(e...))
}

// small: the chapter's curve.
func small() api.Curve {
	return api.Curve{Alg: -7, Crv: 1, Oid: []uint64{1, 3, 132, 0}, P: api.Nat{251}, A: api.Nat{1}, B: api.Nat{4}, Gx: api.Nat{7}, Gy: api.Nat{75}, N: api.Nat{271}}
}

// flat: a curve modulo p whose point (0, 0) is its own opposite, so that it comes back at 2, whatever p is.
func flat(p *big.Int, alg, crv int64) api.Curve {
	return api.Curve{Alg: alg, Crv: crv, P: limbsOf(p), A: api.Nat{1}, N: api.Nat{2}}
}

// wide: a curve whose numbers have two bytes, and most of them a 0 ahead.
func wide() api.Curve { return flat(big.NewInt(257), -35, 2) }

// p256: the curve that NIST names P-256 (FIPS 186-4, D.1.2.3), with the numbers by which it is named.
func p256() api.Curve {
	return api.Curve{
		Alg: -7, Crv: 1, Oid: []uint64{1, 2, 840, 10045, 3, 1, 7},
		P:  limbsOf(hexInt("ffffffff00000001000000000000000000000000ffffffffffffffffffffffff")),
		A:  limbsOf(hexInt("ffffffff00000001000000000000000000000000fffffffffffffffffffffffc")),
		B:  limbsOf(hexInt("5ac635d8aa3a93e7b3ebbd55769886bc651d06b0cc53b0f63bce3c3e27d2604b")),
		Gx: limbsOf(hexInt("6b17d1f2e12c4247f8bce6e563a440f277037d812deb33a0f4a13945d898c296")),
		Gy: limbsOf(hexInt("4fe342e2fe1a7f9b8ee7eb4a7c0f9e162bce33576b315ececbb6406837bf51f5")),
		N:  limbsOf(hexInt("ffffffff00000000ffffffffffffffffbce6faada7179e84f3b9cac2fc632551")),
	}
}

// sized: curves over primes of one byte to 32, about where limbs begin.
func sized() []api.Curve {
	primes := []*big.Int{plus(twoTo(8), -5), plus(twoTo(8), 1), plus(twoTo(16), 1), plus(twoTo(64), -59), plus(twoTo(64), 13), plus(twoTo(128), -159), plus(twoTo(128), 51), plus(twoTo(255), -19), plus(twoTo(256), -189)}
	out := []api.Curve{small(), p256()}
	for at, p := range primes {
		out = append(out, flat(p, int64(-100-at), int64(at)))
	}
	return out
}

func hexInt(s string) *big.Int { return new(big.Int).SetBytes(unhex(s)) }

// unhex: bytes that are written in base sixteen, with blanks between them.
func unhex(s string) []byte {
	b, err := hex.DecodeString(strings.ReplaceAll(s, " ", ""))
	if err != nil {
		panic(err)
	}
	return b
}

// plus: a number and a small one, which may be below 0.
func plus(a *big.Int, b int64) *big.Int { return new(big.Int).Add(a, big.NewInt(b)) }

// twoTo: 2, so many times multiplied.
func twoTo(times int) *big.Int { return new(big.Int).Exp(big.NewInt(2), big.NewInt(int64(times)), nil) }

// valueOf: the number by the library's reckoning, which the tests hold the answers against.
func valueOf(a api.Nat) *big.Int {
	b := make([]byte, 0, 8*len(a))
	for _, limb := range slices.Backward(a) {
		for shift := 56; shift >= 0; shift -= 8 {
			b = append(b, byte(limb>>shift))
		}
	}
	return new(big.Int).SetBytes(b)
}

// limbsOf: the limbs of a number of the library's.
func limbsOf(n *big.Int) api.Nat {
	var out api.Nat
	mask := new(big.Int).SetUint64(1<<64 - 1)
	for left := new(big.Int).Set(n); left.Sign() > 0; left.Rsh(left, 64) {
		out = append(out, new(big.Int).And(left, mask).Uint64())
	}
	return out
}

// sizeOf: how many bytes the numbers below a curve's P are written with.
func sizeOf(c api.Curve) int { return len(valueOf(c.P).Bytes()) }

// fill: a number as so many bytes.
func fill(n *big.Int, size int) []byte { return n.FillBytes(make([]byte, size)) }

// padded: the number with limbs of 0 above the greatest one.
func padded(a api.Nat) api.Nat { return append(slices.Clone(a), 0, 0) }

// paddedCurves: padded, for all numbers of all curves.
func paddedCurves(curves []api.Curve) []api.Curve {
	out := slices.Clone(curves)
	for at := range out {
		c := &out[at]
		for _, n := range []*api.Nat{&c.P, &c.A, &c.B, &c.Gx, &c.Gy, &c.N} {
			*n = padded(*n)
		}
	}
	return out
}

// paddedKey: padded, for all numbers of a key.
func paddedKey(k api.Key) api.Key {
	for _, n := range []*api.Nat{&k.Point.X, &k.Point.Y, &k.Rsa.N, &k.Rsa.E} {
		*n = padded(*n)
	}
	return k
}

// rightSide: x x x + A x + B modulo P.
func rightSide(c api.Curve, x *big.Int) *big.Int {
	out := new(big.Int).Mul(x, x)
	out.Mul(out.Add(out, valueOf(c.A)), x)
	return out.Mod(out.Add(out, valueOf(c.B)), valueOf(c.P))
}

// isOn: whether two numbers are below P and a point of the curve.
func isOn(c api.Curve, x, y *big.Int) bool {
	p := valueOf(c.P)
	square := new(big.Int).Mul(y, y)
	return x.Cmp(p) < 0 && y.Cmp(p) < 0 && square.Mod(square, p).Cmp(rightSide(c, x)) == 0
}

// above: the first point of a curve whose first number is from some number on.
func above(c api.Curve, x *big.Int) (*big.Int, *big.Int) {
	for ; ; x = plus(x, 1) {
		if y := new(big.Int).ModSqrt(rightSide(c, x), valueOf(c.P)); y != nil {
			return x, y
		}
	}
}

// ecKey: the key of a point.
func ecKey(place int, x, y *big.Int) api.Key {
	return api.Key{Kind: api.KEc, Curve: place, Point: api.Point{X: limbsOf(x), Y: limbsOf(y)}}
}

// smallKey: the key of a point of two small numbers.
func smallKey(place int, x, y int64) api.Key { return ecKey(place, big.NewInt(x), big.NewInt(y)) }

// rsaKey: the key of a modulus and an exponent.
func rsaKey(n, e *big.Int) api.Key {
	return api.Key{Kind: api.KRsa, Rsa: api.RsaKey{N: limbsOf(n), E: limbsOf(e)}}
}

// least, greatest: moduli of 62 and of 256 bytes: the least and the greatest one that rsa.Check takes.
func least() *big.Int    { return plus(twoTo(8*61), 1) }
func greatest() *big.Int { return plus(twoTo(8*256), -1) }

// isRight: what rsa.Check takes, by the library's reckoning.
func isRight(n, e *big.Int) bool {
	size := len(n.Bytes())
	return size >= 62 && size <= 256 && n.Bit(0) == 1 && e.Bit(0) == 1 && e.Cmp(big.NewInt(3)) >= 0 && e.Cmp(n) < 0
}

// same: whether two items are alike in all fields; lists without anything in them are alike.
func same(a, b api.Item) bool {
	return a.Kind == b.Kind && a.N == b.N && bytes.Equal(a.B, b.B) && slices.EqualFunc(a.Kids, b.Kids, same)
}

// sameKey: whether two keys are alike in all fields, limb by limb.
func sameKey(a, b api.Key) bool {
	return a.Kind == b.Kind && a.Curve == b.Curve && a.Point.Inf == b.Point.Inf &&
		slices.Equal(a.Point.X, b.Point.X) && slices.Equal(a.Point.Y, b.Point.Y) &&
		slices.Equal(a.Rsa.N, b.Rsa.N) && slices.Equal(a.Rsa.E, b.Rsa.E)
}

// rising: a map with its pairs in the order of their forms.
func rising(i api.Item) api.Item {
	rows := slices.Collect(slices.Chunk(slices.Clone(i.Kids), 2))
	slices.SortStableFunc(rows, func(a, b []api.Item) int { return bytes.Compare(formOf(a[0]), formOf(b[0])) })
	return pairs(slices.Concat(rows...)...)
}

// formOf: an item's bytes.
func formOf(i api.Item) []byte {
	b, err := cbor.Encode(i)
	if err != api.OK {
		panic(err)
	}
	return b
}

// reads: the item is read as just that key, and the key is written as the item, with its keys rising.
func reads(t *testing.T, i api.Item, curves []api.Curve, want api.Key) {
	t.Helper()
	for _, list := range [][]api.Curve{curves, paddedCurves(curves)} {
		got, err := cose.Read(i, list)
		if err != api.OK || !sameKey(got, want) {
			t.Fatalf("Read(%v): %v, error %d; not %v, no error", i, got, err, want)
		}
	}
	if back, err := cose.Write(want, curves); err != api.OK || !same(back, rising(i)) {
		t.Fatalf("Write(%v): %v, error %d; not %v, no error", want, back, err, i)
	}
}

// unread: the item is refused with just that error, and no key stands beside it.
func unread(t *testing.T, i api.Item, curves []api.Curve, want api.Errno) {
	t.Helper()
	for _, list := range [][]api.Curve{curves, paddedCurves(curves)} {
		got, err := cose.Read(i, list)
		if err != want || !sameKey(got, api.Key{}) {
			t.Fatalf("Read(%v): %v, error %d; not none, error %d", i, got, err, want)
		}
	}
}

// writes: the key's item has just that form, with limbs of 0 on top of its numbers as well.
func writes(t *testing.T, k api.Key, curves []api.Curve, form []byte) {
	t.Helper()
	want, err := cbor.Whole(form)
	if err != api.OK {
		t.Fatalf("%x is no form: error %d", form, err)
	}
	for _, key := range []api.Key{k, paddedKey(k)} {
		got, err := cose.Write(key, paddedCurves(curves))
		if err != api.OK || !same(got, want) {
			t.Fatalf("Write(%v): %v, error %d; not %v, no error", key, got, err, want)
		}
	}
}

// unwritten: the key has no item, and nothing stands beside the error.
func unwritten(t *testing.T, k api.Key, curves []api.Curve) {
	t.Helper()
	for _, key := range []api.Key{k, paddedKey(k)} {
		got, err := cose.Write(key, curves)
		if err != api.ErrKey || !same(got, api.Item{}) {
			t.Fatalf("Write(%v): %v, error %d; not none, error %d", key, got, err, api.ErrKey)
		}
	}
}

// word: what a number or bytes are, as a text; of other items nothing.
func word(i api.Item) string {
	switch i.Kind {
	case api.CUint:
		return new(big.Int).SetUint64(i.N).String()
	case api.CNeg:
		n := new(big.Int).SetUint64(i.N)
		return n.Not(n).String()
	case api.CBytes:
		return "bytes " + string(i.B)
	}
	return ""
}

// judge: P11.1 by the chapter's words, with a map's numbers and values as texts.
func judge(i api.Item, curves []api.Curve) (api.Key, api.Errno) {
	found := map[string]string{}
	for at := len(i.Kids) &^ 1; at > 0; at -= 2 {
		found[word(i.Kids[at-2])] = word(i.Kids[at-1])
	}
	points := len(i.Kids) == 10 && found["1"] == "2"
	powers := len(i.Kids) == 8 && found["1"] == "3"
	switch {
	case i.Kind != api.CMap || !points && !powers:
		return api.Key{}, api.ErrKey
	case points:
		return judgePoint(found, curves)
	case found["3"] != "-257":
		return api.Key{}, api.ErrAlg
	}
	n, isN := strings.CutPrefix(found["-1"], "bytes ")
	e, isE := strings.CutPrefix(found["-2"], "bytes ")
	numberN, numberE := new(big.Int).SetBytes([]byte(n)), new(big.Int).SetBytes([]byte(e))
	if !isN || !isE || string(numberN.Bytes()) != n || string(numberE.Bytes()) != e || !isRight(numberN, numberE) {
		return api.Key{}, api.ErrKey
	}
	return rsaKey(numberN, numberE), api.OK
}

// judgePoint: the same, of a map that tells of a point.
func judgePoint(found map[string]string, curves []api.Curve) (api.Key, api.Errno) {
	for place, c := range curves {
		if found["3"] != big.NewInt(c.Alg).String() {
			continue
		}
		x, isX := strings.CutPrefix(found["-2"], "bytes ")
		y, isY := strings.CutPrefix(found["-3"], "bytes ")
		numberX, numberY := new(big.Int).SetBytes([]byte(x)), new(big.Int).SetBytes([]byte(y))
		right := isX && isY && len(x) == sizeOf(c) && len(y) == sizeOf(c) && found["-1"] == big.NewInt(c.Crv).String()
		if !right || !isOn(c, numberX, numberY) {
			return api.Key{}, api.ErrKey
		}
		return ecKey(place, numberX, numberY), api.OK
	}
	return api.Key{}, api.ErrAlg
}

// judged: the item is read, or refused, as the judge says; which error is told.
func judged(t *testing.T, i api.Item, curves []api.Curve) api.Errno {
	t.Helper()
	want, err := judge(i, curves)
	if err != api.OK {
		unread(t, i, curves, err)
		return err
	}
	reads(t, i, curves, want)
	return api.OK
}
