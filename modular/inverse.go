package modular

import (
	"latchkey/api"
	"latchkey/nat"
)

// Inv: what gives 1 with a number; ErrInv: nothing does.
func Inv(a, m api.Nat) (api.Nat, api.Errno) {
	first, err := Of(a, m)
	if err != api.OK {
		return nil, err
	}
	divisor, times, below := euclid(first, m)
	if nat.Cmp(divisor, nat.Of(1)) != 0 {
		return nil, api.ErrInv
	}
	if below {
		return Sub(nil, times, m)
	}
	return Of(times, m)
}

// euclid: the greatest number that divides both a and m, and how often a has to be taken to give it, up to multiples of m; below: so often below 0.
func euclid(a, m api.Nat) (divisor, times api.Nat, below bool) {
	// Up to multiples of m, left is a taken so often as times says, and next is a taken so often as more says; just one of the two stands below 0, each time the other one, so that they are only ever added up.
	left, next := m, a
	more := nat.Of(1)
	below = true
	for nat.Len(next) > 0 {
		often, rest, _ := nat.Div(left, next)
		left, next = next, rest
		times, more = more, nat.Add(times, nat.Mul(often, more))
		below = !below
	}
	return left, times, below
}
