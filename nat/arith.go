package nat

import (
	"math"
	"math/bits"

	"latchkey/api"
)

// maxDoubled: how often Shift doubles at most.
const maxDoubled = limbBits * api.MaxLimbs

// Add: the sum.
func Add(a, b api.Nat) api.Nat {
	size := max(limbs(a), limbs(b))
	sum := make(api.Nat, size+1)
	carry := uint64(0)
	for i := range size {
		sum[i], carry = bits.Add64(limb(a, i), limb(b, i), carry)
	}
	sum[size] = carry
	return trim(sum)
}

// Sub: the difference; false: it is below 0.
func Sub(a, b api.Nat) (api.Nat, bool) {
	if Cmp(a, b) < 0 {
		return nil, false
	}
	diff := make(api.Nat, limbs(a))
	borrow := uint64(0)
	for i := range len(diff) {
		diff[i], borrow = bits.Sub64(a[i], limb(b, i), borrow)
	}
	return trim(diff), true
}

// Mul: the product.
func Mul(a, b api.Nat) api.Nat {
	x, y := trim(a), trim(b)
	product := make(api.Nat, len(x)+len(y))
	for i := range len(x) {
		product[i+len(y)] = addTimes(product[i:], y, x[i])
	}
	return trim(product)
}

// Div: how often, and what is left; false: by 0.
func Div(a, b api.Nat) (q, r api.Nat, ok bool) {
	x, y := trim(a), trim(b)
	if len(y) == 0 {
		return nil, nil, false
	}
	if len(x) < len(y) {
		return nil, Norm(x), true
	}
	// Only with the greatest bit of the divisor's greatest limb set is each guess of guessLimb near.
	by := bits.LeadingZeros64(y[len(y)-1])
	divisor := Shift(y, -by)
	left := make(api.Nat, len(x)+1)
	copy(left, Shift(x, -by))
	q = make(api.Nat, len(x)-len(y)+1)
	for i := range len(q) {
		place := len(q) - 1 - i
		q[place] = divLimb(left[place:place+len(divisor)+1], divisor)
	}
	return trim(q), Shift(left, by), true
}

// Shift: divided by 2 so often; multiplied, if that is below 0. Below the least that the chapter names the answer is 0, as one of that size might not fit into memory.
func Shift(a api.Nat, by int) api.Nat {
	if by < -maxDoubled {
		return nil
	}
	if by < 0 {
		return double(trim(a), -by)
	}
	return halve(trim(a), by)
}

// double: multiplied by 2 so often.
func double(a api.Nat, times int) api.Nat {
	skip, rest := times/limbBits, times%limbBits
	out := make(api.Nat, len(a)+skip+1)
	for i := range len(a) {
		out[skip+i] |= a[i] << rest
		out[skip+i+1] = a[i] >> (limbBits - rest)
	}
	return trim(out)
}

// halve: divided by 2 so often.
func halve(a api.Nat, times int) api.Nat {
	skip, rest := times/limbBits, times%limbBits
	if skip >= len(a) {
		return nil
	}
	out := make(api.Nat, len(a)-skip)
	for i := range len(out) {
		out[i] = a[skip+i]>>rest | limb(a, skip+i+1)<<(limbBits-rest)
	}
	return trim(out)
}

// divLimb: how often the divisor is in left, which has one limb more and is less than 2^64 divisors; that often it is taken away from left, in its place.
func divLimb(left, divisor api.Nat) uint64 {
	n := len(divisor)
	guess := guessLimb(left[n], left[n-1], divisor[n-1])
	left[n] -= subTimes(left, divisor, guess)
	// What is left is less than the divisor, and so has no limb there, unless the guess was too great and it fell below 0.
	for left[n] != 0 {
		left[n] += addTimes(left, divisor, 1)
		guess--
	}
	return guess
}

// guessLimb: how often a divisor is in a number, told by the greatest limbs of both: never too small, and at most 2 too great, if the divisor's greatest bit is set (Knuth, The Art of Computer Programming, volume 2, 4.3.1).
func guessLimb(high, low, divisor uint64) uint64 {
	if high >= divisor {
		return math.MaxUint64
	}
	guess, _ := bits.Div64(high, low, divisor)
	return guess
}

// addTimes: adds a so often to the lowest limbs of sum, in their place; what is carried out of them.
func addTimes(sum, a api.Nat, times uint64) uint64 {
	carry := uint64(0)
	for i := range len(a) {
		high, low := mulAdd(a[i], times, carry)
		next, over := bits.Add64(sum[i], low, 0)
		sum[i], carry = next, high+over
	}
	return carry
}

// subTimes: takes a so often away from the lowest limbs of diff, in their place; what is borrowed for them.
func subTimes(diff, a api.Nat, times uint64) uint64 {
	borrow := uint64(0)
	for i := range len(a) {
		high, low := mulAdd(a[i], times, borrow)
		next, under := bits.Sub64(diff[i], low, 0)
		diff[i], borrow = next, high+under
	}
	return borrow
}

// mulAdd: a product and one more limb, as two limbs, which are always enough.
func mulAdd(a, b, more uint64) (high, low uint64) {
	high, low = bits.Mul64(a, b)
	low, over := bits.Add64(low, more, 0)
	return high + over, low
}
