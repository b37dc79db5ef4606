package rsa_test

import (
	"bytes"
	"math/big"
	"math/rand"
	"slices"
	"testing"

	"latchkey/api"
	"latchkey/rsa"
)

func TestP92RightSignatures(t *testing.T) {
	for i, k := range products() {
		for _, hash := range append(hashes(int64(i), 3), [32]byte{}) {
			verifies(t, "a right signature", k.public(), hash, k.sign(hash), true)
		}
	}
	for _, hash := range append(hashes(77, 20), [32]byte{}) {
		verifies(t, "a right signature by E 3", low().public(), hash, low().sign(hash), true)
	}
}

// Exponents of all lengths, the least and the greatest that may be among them.
func TestP92RightSignaturesByManyExponents(t *testing.T) {
	hash := hashes(6, 1)[0]
	least := low()
	exponents := []*big.Int{plus(least.n, -2), big.NewInt(5), big.NewInt(65537), plus(twoTo(64), 1), plus(twoTo(128), -1), plus(twoTo(487), 1), plus(twoTo(488), -1)}
	draw := rand.New(rand.NewSource(7))
	for range 20 {
		e := new(big.Int).Rand(draw, twoTo(uint(3+draw.Intn(486))))
		exponents = append(exponents, e.SetBit(e, 0, 1))
	}
	signed := 0
	for _, e := range exponents {
		k := least.with(e)
		if new(big.Int).ModInverse(e, k.phi) == nil || !isKey(k.public()) {
			continue
		}
		signed++
		sig := k.sign(hash)
		verifies(t, "another exponent", k.public(), hash, sig, true)
		verifies(t, "another exponent's signature", k.with(plus(e, 2)).public(), hash, sig, false)
	}
	if signed < 5 {
		t.Errorf("%d exponents", signed)
	}
	greatest := least.with(plus(least.n, -2))
	verifies(t, "an E of N - 2", greatest.public(), hash, greatest.sign(hash), true)
}

// The greatest exponents of the greatest moduli are the most that a call reckons.
func TestP92AGreatExponentOfAGreatModulus(t *testing.T) {
	hash := hashes(8, 1)[0]
	k := products()[9]
	e := plus(k.n, -2)
	for new(big.Int).ModInverse(e, k.phi) == nil {
		e = plus(e, -2)
	}
	k = k.with(e)
	sig := k.sign(hash)
	verifies(t, "a great exponent", k.public(), hash, sig, true)
	sig[len(sig)-1] ^= 1
	verifies(t, "a great exponent, with a bit turned", k.public(), hash, sig, false)
}

func TestP92SignaturesOfOtherLengths(t *testing.T) {
	for _, k := range append(products(), low()) {
		hash := hashes(9, 1)[0]
		sig := k.sign(hash)
		size := len(sig)
		verifies(t, "a right signature", k.public(), hash, sig, true)
		verifies(t, "none", k.public(), hash, nil, false)
		verifies(t, "no bytes", k.public(), hash, []byte{}, false)
		verifies(t, "the last byte gone", k.public(), hash, sig[:size-1], false)
		verifies(t, "the first byte gone", k.public(), hash, sig[1:], false)
		verifies(t, "a 0 behind", k.public(), hash, append(slices.Clone(sig), 0), false)
		verifies(t, "a 0 ahead", k.public(), hash, append([]byte{0}, sig...), false)
		verifies(t, "twice", k.public(), hash, append(slices.Clone(sig), sig...), false)
		verifies(t, "many 0 ahead", k.public(), hash, append(make([]byte, 512), sig...), false)
		verifies(t, "many 0 behind", k.public(), hash, append(slices.Clone(sig), make([]byte, 512)...), false)
	}
}

// A right signature keeps its bytes of 0 ahead: as many bytes as N has, no fewer.
func TestP92BytesOfZeroAhead(t *testing.T) {
	k := low()
	var seen [3]int
	for _, hash := range hashes(10, 1500) {
		sig := k.sign(hash)
		ahead := len(sig) - len(bytes.TrimLeft(sig, "\x00"))
		seen[min(ahead, 2)]++
		if ahead < 2 && seen[ahead] > 5 {
			continue
		}
		verifies(t, "bytes of 0 ahead", k.public(), hash, sig, true)
		for gone := 1; gone <= ahead; gone++ {
			verifies(t, "a byte of 0 ahead gone", k.public(), hash, sig[gone:], false)
		}
		verifies(t, "a byte of 0 more", k.public(), hash, append([]byte{0}, sig...), false)
	}
	if seen[1] == 0 || seen[2] == 0 {
		t.Errorf("too few bytes of 0 ahead: %v", seen)
	}
}

// What is N more has the same power, but isn't below N.
func TestP92NumbersThatAreNotBelowN(t *testing.T) {
	k := low()
	for _, hash := range hashes(11, 5) {
		sig := new(big.Int).SetBytes(k.sign(hash))
		for times := range int64(100) {
			more := new(big.Int).Mul(k.n, big.NewInt(times))
			b := more.Add(more, sig).FillBytes(make([]byte, k.size()))
			verifies(t, "so often N more", k.public(), hash, b, times == 0)
		}
	}
	for _, k := range append(products(), low()) {
		hash := hashes(12, 1)[0]
		for _, n := range []*big.Int{k.n, plus(k.n, 1), plus(k.n, -1), new(big.Int), big.NewInt(1)} {
			verifies(t, "a number near N, or 0", k.public(), hash, n.FillBytes(make([]byte, k.size())), false)
		}
		verifies(t, "all bits set", k.public(), hash, bytes.Repeat([]byte{0xff}, k.size()), false)
		verifies(t, "the pad itself", k.public(), hash, rsa.Pad(k.size(), hash), false)
	}
}

func TestP92ABitTurned(t *testing.T) {
	for _, k := range []secret{low(), products()[1], products()[4]} {
		hash := hashes(13, 1)[0]
		sig := k.sign(hash)
		for i := range 8 * len(sig) {
			sig[i/8] ^= 1 << (i % 8)
			verifies(t, "a bit turned", k.public(), hash, sig, false)
			sig[i/8] ^= 1 << (i % 8)
		}
		verifies(t, "all bits as they were", k.public(), hash, sig, true)
		for i := range 256 {
			other := hash
			other[i/8] ^= 1 << (i % 8)
			verifies(t, "another hash", k.public(), other, sig, false)
		}
		for i := range k.n.BitLen() {
			n := new(big.Int).SetBit(k.n, i, 1-k.n.Bit(i))
			verifies(t, "another modulus", public(n, k.e), hash, sig, false)
		}
		verifies(t, "another hash's", k.public(), hash, k.sign([32]byte{}), false)
	}
	for i, k := range products() {
		hash := hashes(14, 1)[0]
		verifies(t, "another key's", k.public(), hash, products()[(i+1)%10].sign(hash), false)
	}
}

// Signatures whose power is almost the pad: each bit of it is asked for.
func TestP92PowersThatAreAlmostThePad(t *testing.T) {
	for _, k := range []secret{low(), products()[1], products()[2], products()[6]} {
		hash := hashes(15, 1)[0]
		pad := wanted(k.size(), hash)
		step := 1 + len(pad)/100 // fewer bits of the long ones
		for i := 8; i < 8*len(pad); i += step {
			other := slices.Clone(pad)
			other[i/8] ^= 1 << (i % 8)
			verifies(t, "a pad with a bit turned", k.public(), hash, k.signBytes(other), false)
		}
		verifies(t, "the pad as it is", k.public(), hash, k.signBytes(pad), true)
		negative := new(big.Int).Sub(k.n, new(big.Int).SetBytes(pad))
		verifies(t, "N less the pad", k.public(), hash, k.signBytes(negative.Bytes()), false)
	}
}

// Pads that other readers take for right ones.
func TestP92OtherPads(t *testing.T) {
	k := products()[6]
	hash := hashes(16, 1)[0]
	size := k.size()
	ff := func(n int) []byte { return bytes.Repeat([]byte{0xff}, n) }
	short := slices.Concat([]byte{0, 1}, ff(8), []byte{0}, name(), hash[:])
	noNull := []byte{0x30, 0x2f, 0x30, 0x0b, 0x06, 0x09, 0x60, 0x86, 0x48, 0x01, 0x65, 0x03, 0x04, 0x02, 0x01, 0x04, 0x20}
	for what, pad := range map[string][]byte{
		"fewer ff, and zeros behind":  append(slices.Clone(short), make([]byte, size-62)...),
		"fewer ff, and zeros ahead":   append(make([]byte, size-62), short...),
		"the hash alone":              append(make([]byte, size-32), hash[:]...),
		"the name and the hash":       slices.Concat(make([]byte, size-51), name(), hash[:]),
		"no name":                     slices.Concat([]byte{0, 1}, ff(size-35), []byte{0}, hash[:]),
		"a name without a null":       slices.Concat([]byte{0, 1}, ff(size-52), []byte{0}, noNull, hash[:]),
		"a 2 in the place of the 1":   slices.Concat([]byte{0, 2}, ff(size-54), []byte{0}, name(), hash[:]),
		"zeros in the place of ff":    slices.Concat([]byte{0, 1}, make([]byte, size-53), name(), hash[:]),
		"no 0 ahead of the name":      slices.Concat([]byte{0, 1}, ff(size-53), name(), hash[:]),
		"the hash's bytes turned":     slices.Concat([]byte{0, 1}, ff(size-54), []byte{0}, name(), backward(hash)),
		"nothing":                     nil,
		"the pad of a byte less":      rsa.Pad(size-1, hash),
		"the pad of another modulus":  rsa.Pad(62, hash),
		"the same of a hash of zeros": wanted(size, [32]byte{}),
	} {
		verifies(t, what, k.public(), hash, k.signBytes(pad), false)
	}
}

// backward: the bytes from the last one on.
func backward(hash [32]byte) []byte {
	out := slices.Clone(hash[:])
	slices.Reverse(out)
	return out
}

// The answers are the judge's, whatever is wrong.
func TestP92AsTheJudge(t *testing.T) {
	draw := rand.New(rand.NewSource(17))
	keys := append(products()[:6:6], low())
	right := 0
	for range 3000 {
		s := keys[draw.Intn(len(keys))]
		hash := hashes(draw.Int63(), 1)[0]
		k, sig := s.public(), s.sign(hash)
		switch draw.Intn(8) {
		case 0:
			k.E = api.Nat{draw.Uint64() >> draw.Intn(64)}
		case 1:
			k.N[draw.Intn(len(k.N))] ^= 1 << draw.Intn(64)
		case 2:
			sig = sig[:draw.Intn(len(sig))]
		case 3:
			sig = append(sig, byte(draw.Intn(256)))
		case 4:
			draw.Read(sig)
		case 5:
			hash[draw.Intn(32)]++
		}
		want := judge(k, hash, sig)
		if want {
			right++
		}
		verifies(t, "what the judge judged", k, hash, sig, want)
	}
	if right < 100 || right > 2900 {
		t.Errorf("%d right ones", right)
	}
}
