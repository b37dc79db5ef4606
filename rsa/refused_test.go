package rsa_test

import (
	"math/big"
	"math/rand"
	"testing"

	"latchkey/api"
	"latchkey/rsa"
)

// holds: the signature's number, so often multiplied, is what it should be: all but Check would take it.
func holds(t *testing.T, what string, k api.RsaKey, hash [32]byte, sig []byte) {
	t.Helper()
	n, number := value(k.N), new(big.Int).SetBytes(sig)
	want := new(big.Int)
	if len(sig) >= 62 {
		want.SetBytes(wanted(len(sig), hash))
	}
	if len(sig) != len(n.Bytes()) || number.Cmp(n) >= 0 || new(big.Int).Exp(number, value(k.E), n).Cmp(want) != 0 {
		t.Fatalf("%s: the power isn't right either", what)
	}
	checks(t, what, k, api.ErrKey)
	verifies(t, what, k, hash, sig, false)
}

// A modulus of a Size that has no pad: the power of 0 is the number of no bytes.
func TestP92AModulusThatIsTooShort(t *testing.T) {
	for size := 1; size < 62; size++ {
		k := public(plus(twoTo(uint(8*size)), -1), big.NewInt(3))
		holds(t, "a short modulus", k, [32]byte{1}, make([]byte, size))
	}
	holds(t, "an N of 1", api.RsaKey{N: api.Nat{1}, E: api.Nat{3}}, [32]byte{}, []byte{0})
	for _, sig := range [][]byte{nil, {}, {0}, {1}, make([]byte, 62)} {
		for _, e := range []api.Nat{nil, {1}, {3}} {
			verifies(t, "an N of 0", api.RsaKey{E: e}, [32]byte{}, sig, false)
			verifies(t, "an N of 1", api.RsaKey{N: api.Nat{1}, E: e}, [32]byte{}, sig, false)
		}
	}
}

func TestP92AModulusThatIsTooLong(t *testing.T) {
	hash := hashes(20, 1)[0]
	draw := rand.New(rand.NewSource(21))
	k := product(draw, 2049, 65537)
	holds(t, "a modulus of 257 bytes", k.public(), hash, k.sign(hash))
	for _, bits := range []uint{2203, 4423} { // 2^bits - 1 is a prime
		n := plus(twoTo(bits), -1)
		k := secret{n, big.NewInt(65537), plus(n, -1)}
		if k.size() > 512 {
			verifies(t, "a modulus that no pad goes with", k.public(), hash, make([]byte, k.size()), false)
			continue
		}
		holds(t, "a long modulus", k.public(), hash, k.sign(hash))
	}
}

func TestP92AModulusThatIsEven(t *testing.T) {
	hash := hashes(22, 1)[0]
	draw := rand.New(rand.NewSource(23))
	p := prime(draw, 520)
	for new(big.Int).ModInverse(big.NewInt(65537), plus(p, -1)) == nil {
		p = prime(draw, 520)
	}
	k := secret{new(big.Int).Lsh(p, 1), big.NewInt(65537), plus(p, -1)}
	holds(t, "an even modulus", k.public(), hash, k.sign(hash))
}

// With an E of 1 whoever writes the pad down would have signed.
func TestP92ExponentsThatAreNone(t *testing.T) {
	k := low()
	n := k.n
	hash := hashes(24, 1)[0]
	pad := rsa.Pad(62, hash)
	holds(t, "an E of 1", public(n, big.NewInt(1)), hash, pad)
	holds(t, "an E of N", public(n, n), hash, pad) // N is a prime: that power is the number itself
	holds(t, "an E of N + 2", public(n, plus(n, 2)), hash, k.sign(hash))
	holds(t, "an E far above N", public(n, plus(new(big.Int).Mul(k.phi, big.NewInt(1<<40)), 3)), hash, k.sign(hash))
	verifies(t, "an E of 0", public(n, new(big.Int)), hash, pad, false)
	verifies(t, "an E of 3", public(n, big.NewInt(3)), hash, k.sign(hash), true)
}

// An even E has signatures too, of hashes whose pad is a square.
func TestP92AnExponentThatIsEven(t *testing.T) {
	found := 0
	for _, hash := range hashes(25, 40) {
		n := low().n
		root := new(big.Int).ModSqrt(new(big.Int).SetBytes(wanted(62, hash)), n)
		if root == nil {
			continue
		}
		found++
		holds(t, "an E of 2", public(n, big.NewInt(2)), hash, root.FillBytes(make([]byte, 62)))
	}
	if found < 5 {
		t.Errorf("%d squares", found)
	}
}

// Whatever is handed in, each call answers.
func TestP1NoCallPanics(t *testing.T) {
	numbers := []api.Nat{nil, {}, {0}, {1}, {2}, {3}, {top}, {0, 0, 0, 0, 0, 0, 0, 1}, make(api.Nat, 100), padded(limbsOf(low().n)), limbsOf(products()[9].n), limbsOf(plus(twoTo(4096), -1)), limbsOf(twoTo(20000))}
	for _, n := range numbers {
		for _, e := range numbers {
			k := api.RsaKey{N: n, E: e}
			for _, size := range []int{0, 1, 8, 61, 62, 63, 255, 256, 257, 511, 512, 513, 3000, rsa.Size(k)} {
				sig := make([]byte, size)
				if rsa.Verify(k, [32]byte{}, sig) {
					t.Errorf("Verify of %d bytes of 0 by %x, %x: true", size, n, e)
				}
			}
		}
	}
}
