package rsa_test

import (
	"bytes"
	"encoding/hex"
	"math"
	"math/big"
	"math/rand"
	"slices"
	"sync"
	"testing"

	"latchkey/api"
	"latchkey/rsa"
)

const top = uint64(math.MaxUint64)

// value: the number by the library's reckoning, which the tests hold the answers against.
func value(a api.Nat) *big.Int {
	b := make([]byte, 0, 8*len(a))
	for _, limb := range slices.Backward(a) {
		for shift := 56; shift >= 0; shift -= 8 {
			b = append(b, byte(limb>>shift))
		}
	}
	return new(big.Int).SetBytes(b)
}

// limbsOf: the limbs of a number of the library's.
func limbsOf(n *big.Int) api.Nat {
	var out api.Nat
	mask := new(big.Int).SetUint64(top)
	for left := new(big.Int).Set(n); left.Sign() > 0; left.Rsh(left, 64) {
		out = append(out, new(big.Int).And(left, mask).Uint64())
	}
	return out
}

// plus: a number and a small one, which may be below 0.
func plus(a *big.Int, b int64) *big.Int { return new(big.Int).Add(a, big.NewInt(b)) }

// twoTo: 2, so many times multiplied.
func twoTo(times uint) *big.Int { return new(big.Int).Lsh(big.NewInt(1), times) }

// public: the key of a modulus and an exponent.
func public(n, e *big.Int) api.RsaKey { return api.RsaKey{N: limbsOf(n), E: limbsOf(e)} }

// padded: the number with limbs of 0 above the greatest one.
func padded(a api.Nat) api.Nat { return append(slices.Clone(a), 0, 0) }

// paddedKey: padded, for both numbers.
func paddedKey(k api.RsaKey) api.RsaKey { return api.RsaKey{N: padded(k.N), E: padded(k.E)} }

// secret: a key with what signatures are made by: how many numbers below N share no divisor with it.
type secret struct{ n, e, phi *big.Int }

// public: the half that is handed out.
func (s secret) public() api.RsaKey { return public(s.n, s.e) }

// size: how many bytes N has.
func (s secret) size() int { return len(s.n.Bytes()) }

// with: the same modulus with another exponent.
func (s secret) with(e *big.Int) secret { return secret{s.n, e, s.phi} }

// root: the number whose power is that one, modulo N.
func (s secret) root(of *big.Int) *big.Int {
	d := new(big.Int).ModInverse(s.e, s.phi)
	if d == nil {
		panic("the exponent has no inverse")
	}
	return new(big.Int).Exp(of, d, s.n)
}

// signBytes: the signature whose power has those bytes.
func (s secret) signBytes(b []byte) []byte {
	return s.root(new(big.Int).SetBytes(b)).FillBytes(make([]byte, s.size()))
}

// sign: a right signature of a hash.
func (s secret) sign(hash [32]byte) []byte { return s.signBytes(wanted(s.size(), hash)) }

// wanted: the chapter's bytes, put together behind one another, of 62 bytes at least.
func wanted(size int, hash [32]byte) []byte {
	name, err := hex.DecodeString("3031300d060960864801650304020105000420")
	if err != nil {
		panic(err)
	}
	return slices.Concat([]byte{0, 1}, bytes.Repeat([]byte{0xff}, size-54), []byte{0}, name, hash[:])
}

// prime: one of so many bits, the two greatest of them set, drawn with a seed so that each run is the same.
func prime(draw *rand.Rand, bits int) *big.Int {
	for {
		n := new(big.Int).Rand(draw, twoTo(uint(bits)))
		n.SetBit(n, bits-1, 1).SetBit(n, bits-2, 1).SetBit(n, 0, 1)
		if n.ProbablyPrime(0) {
			return n
		}
	}
}

// product: the key of two primes, of so many bits in all.
func product(draw *rand.Rand, bits int, e int64) secret {
	for {
		p, q := prime(draw, bits/2), prime(draw, bits-bits/2)
		phi := new(big.Int).Mul(plus(p, -1), plus(q, -1))
		if new(big.Int).ModInverse(big.NewInt(e), phi) != nil {
			return secret{new(big.Int).Mul(p, q), big.NewInt(e), phi}
		}
	}
}

// after: the key of the first prime above a number that the exponent goes with.
func after(n *big.Int, e int64) secret {
	n = plus(n, 1)
	for {
		if n.ProbablyPrime(0) {
			if phi := plus(n, -1); new(big.Int).ModInverse(big.NewInt(e), phi) != nil {
				return secret{n, big.NewInt(e), phi}
			}
		}
		n = plus(n, 1)
	}
}

// low: the least modulus that is a prime, of 62 bytes, the first of them 1: numbers above it fit into as many bytes.
var low = sync.OnceValue(func() secret { return after(twoTo(488), 3) })

// The keys of two primes: of Sizes at the edges, and where limbs begin.
var products = sync.OnceValue(func() []secret {
	draw := rand.New(rand.NewSource(1))
	var out []secret
	for _, bits := range []int{489, 496, 497, 504, 512, 513, 1024, 2040, 2041, 2048} {
		out = append(out, product(draw, bits, 65537))
	}
	return out
})

// hashes: so many, drawn with a seed.
func hashes(seed int64, many int) [][32]byte {
	draw := rand.New(rand.NewSource(seed))
	out := make([][32]byte, many)
	for i := range out {
		draw.Read(out[i][:])
	}
	return out
}

// checks: the key is judged so, with limbs of 0 on top of its numbers as well.
func checks(t *testing.T, what string, k api.RsaKey, want api.Errno) {
	t.Helper()
	for _, k := range []api.RsaKey{k, paddedKey(k), {N: padded(k.N), E: k.E}, {N: k.N, E: padded(k.E)}} {
		if got := rsa.Check(k); got != want {
			t.Errorf("Check of %s: %d, not %d (N %x, E %x)", what, got, want, k.N, k.E)
		}
	}
}

// verifies: the signature is judged so, with limbs of 0 on top of the key's numbers as well.
func verifies(t *testing.T, what string, k api.RsaKey, hash [32]byte, sig []byte, want bool) {
	t.Helper()
	for _, k := range []api.RsaKey{k, paddedKey(k)} {
		if got := rsa.Verify(k, hash, sig); got != want {
			t.Errorf("Verify of %s: %v (N %x, E %x, hash %x, sig %x)", what, got, k.N, k.E, hash, sig)
		}
	}
}

// isKey: P9.1's Check by the library's reckoning.
func isKey(k api.RsaKey) bool {
	n, e := value(k.N), value(k.E)
	size := len(n.Bytes())
	return size >= 62 && size <= 256 && n.Bit(0) == 1 && e.Bit(0) == 1 && e.Cmp(big.NewInt(3)) >= 0 && e.Cmp(n) < 0
}

// judge: P9.2's Verify by the library's reckoning.
func judge(k api.RsaKey, hash [32]byte, sig []byte) bool {
	n, number := value(k.N), new(big.Int).SetBytes(sig)
	size := len(n.Bytes())
	if !isKey(k) || len(sig) != size || number.Cmp(n) >= 0 {
		return false
	}
	power := new(big.Int).Exp(number, value(k.E), n)
	return power.Cmp(new(big.Int).SetBytes(wanted(size, hash))) == 0
}
