package sha

import (
	"math/big"
	"slices"
	"testing"
)

// rootFraction: the first 32 bits of the fraction of a root, by the library's numbers: the greatest one whose power isn't above the prime's.
func rootFraction(prime uint64, power int64) uint32 {
	shifted := new(big.Int).Lsh(new(big.Int).SetUint64(prime), uint(32*power))
	low, high := new(big.Int), new(big.Int).Lsh(big.NewInt(1), 40)
	for new(big.Int).Sub(high, low).Cmp(big.NewInt(1)) > 0 {
		middle := new(big.Int).Add(low, high)
		middle.Rsh(middle, 1)
		if new(big.Int).Exp(middle, big.NewInt(power), nil).Cmp(shifted) <= 0 {
			low = middle
		} else {
			high = middle
		}
	}
	return uint32(low.Uint64())
}

func TestP31Primes(t *testing.T) {
	var want []uint64
	for n := int64(2); len(want) < 64; n++ {
		if big.NewInt(n).ProbablyPrime(0) {
			want = append(want, uint64(n))
		}
	}
	for _, count := range []int{0, 1, 8, 64} {
		if got := primes(count); !slices.Equal(got, want[:count]) {
			t.Errorf("primes(%d): %d, not %d", count, got, want[:count])
		}
	}
}

func TestP31WordsAreOfRoots(t *testing.T) {
	k := constants()
	for i, prime := range primes(64) {
		if want := rootFraction(prime, 3); k[i] != want {
			t.Errorf("K(%d): %08x, not %08x", i, k[i], want)
		}
	}
	words := beginning()
	for i, prime := range primes(8) {
		if want := rootFraction(prime, 2); words[i] != want {
			t.Errorf("word %d of the beginning: %08x, not %08x", i, words[i], want)
		}
	}
}

// Lengths that would take long to hash as a whole: what is hashed behind so many bytes tells their bits, the lowest 64.
func TestP31Ending(t *testing.T) {
	sizes := []uint64{0, 1, 54, 55, 56, 57, 63, 64, 65, 119, 120, 128, 1<<29 - 1, 1 << 29, 1<<31 - 1, 1 << 40, 1<<61 - 1, 1 << 61, 1<<61 + 5, 1<<64 - 1}
	for _, size := range sizes {
		got := ending(size)
		gap := len(got) - 8
		if gap < 1 || gap > 64 || (size%64+uint64(gap))%64 != 56 {
			t.Fatalf("ending(%d): %d bytes", size, len(got))
		}
		want := make([]byte, gap)
		want[0] = 0x80
		length := new(big.Int).Lsh(new(big.Int).SetUint64(size), 3)
		length.And(length, new(big.Int).SetUint64(1<<64-1))
		want = append(want, length.FillBytes(make([]byte, 8))...)
		if !slices.Equal(got, want) {
			t.Errorf("ending(%d): %x, not %x", size, got, want)
		}
	}
}
