// Package nat is layer 1: natural numbers of many limbs: see shared/doc/01-nat.md.
package nat

import (
	"cmp"
	"iter"
	"math/bits"

	"latchkey/api"
)

// limbBits: how many bits a limb has.
const limbBits = 64

// Norm: without limbs of 0 above the greatest one.
func Norm(a api.Nat) api.Nat {
	out := make(api.Nat, limbs(a))
	copy(out, a)
	return out
}

// Of: a number.
func Of(n uint64) api.Nat { return trim(api.Nat{n}) }

// Bits: the bits of a number, from the greatest one on: their places, and whether they are set.
func Bits(a api.Nat) iter.Seq2[int, bool] {
	own := Norm(a) // the caller may change its limbs before they are gone over
	size := Len(own)
	return func(yield func(int, bool) bool) {
		for i := range size {
			place := size - 1 - i
			if !yield(place, isSet(own, place)) {
				return
			}
		}
	}
}

// Len: how many bits a number has.
func Len(a api.Nat) int {
	n := limbs(a)
	if n == 0 {
		return 0
	}
	return (n-1)*limbBits + bits.Len64(a[n-1])
}

// Cmp: -1, 0, 1: how a number stands to another one.
func Cmp(a, b api.Nat) int {
	n := limbs(a)
	if c := cmp.Compare(n, limbs(b)); c != 0 {
		return c
	}
	for i := range n {
		place := n - 1 - i
		if c := cmp.Compare(a[place], b[place]); c != 0 {
			return c
		}
	}
	return 0
}

// limbs: how many limbs a number has, up to its greatest one that isn't 0.
func limbs(a api.Nat) int {
	for i := range len(a) {
		if n := len(a) - i; a[n-1] != 0 {
			return n
		}
	}
	return 0
}

// trim: like Norm, but in the same memory: for numbers that are looked at, or were made here.
func trim(a api.Nat) api.Nat { return a[:limbs(a)] }

// limb: the limb of that place; those above the greatest one are 0, so that numbers of unlike lengths go together.
func limb(a api.Nat, place int) uint64 {
	if place < len(a) {
		return a[place]
	}
	return 0
}

// isSet: whether the bit of that place is set.
func isSet(a api.Nat, place int) bool {
	return limb(a, place/limbBits)>>(place%limbBits)&1 == 1
}
