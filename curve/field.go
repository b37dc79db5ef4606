package curve

import (
	"latchkey/api"
	"latchkey/modular"
)

// field: numbers modulo one that isn't 0, so that of modular's calls only an inverse can tell an error.
type field struct{ modulus api.Nat }

// plus: the sum.
func (f field) plus(a, b api.Nat) api.Nat {
	sum, _ := modular.Add(a, b, f.modulus)
	return sum
}

// minus: the difference.
func (f field) minus(a, b api.Nat) api.Nat {
	difference, _ := modular.Sub(a, b, f.modulus)
	return difference
}

// product: the product.
func (f field) product(a, b api.Nat) api.Nat {
	product, _ := modular.Mul(a, b, f.modulus)
	return product
}

// quotient: the product with an inverse; false: there is none.
func (f field) quotient(a, b api.Nat) (api.Nat, bool) {
	inverse, err := modular.Inv(b, f.modulus)
	if err != api.OK {
		return nil, false
	}
	times := f.product
	return times(a, inverse), true
}
