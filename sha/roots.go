package sha

import "math/bits"

// rootBits: a root of one of the first 64 primes is less than 8, so it has 3 bits ahead of the 32 of its fraction.
const rootBits = 3 + 32

// constants: K.
func constants() [rounds]uint32 {
	var k [rounds]uint32
	for i, prime := range primes(rounds) {
		k[i] = fraction(prime, cubeBelow)
	}
	return k
}

// beginning: the words ahead of the first block.
func beginning() [hashWords]uint32 {
	var words [hashWords]uint32
	for i, prime := range primes(hashWords) {
		words[i] = fraction(prime, squareBelow)
	}
	return words
}

// primes: so many of them, the least first.
func primes(count int) []uint64 {
	found := make([]uint64, 0, count)
next:
	for n := uint64(2); len(found) < count; n++ {
		for _, prime := range found {
			if n%prime == 0 {
				continue next
			}
		}
		found = append(found, n)
	}
	return found
}

// fraction: the first 32 bits of the fraction of a prime's root; below tells whether a number of 2^32ths is less than that root.
func fraction(prime uint64, below func(root, prime uint64) bool) uint32 {
	root := uint64(0)
	for i := range rootBits {
		longer := root | 1<<(rootBits-1-i)
		if below(longer, prime) {
			root = longer
		}
	}
	return uint32(root)
}

// squareBelow: whether a root's square is less than the prime, both as 2^64ths. (They are never the same, as a prime is no square; so the limb above tells it.)
func squareBelow(root, prime uint64) bool {
	high, _ := bits.Mul64(root, root)
	return high < prime
}

// cubeBelow: whether a root's cube is less than the prime, both as 2^96ths. (They are never the same, as a prime is no cube; so the limb above tells it.)
func cubeBelow(root, prime uint64) bool {
	high, low := bits.Mul64(root, root)
	over, _ := bits.Mul64(low, root)
	return high*root+over < prime<<32
}
