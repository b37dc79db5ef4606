package modular_test

import (
	"math/big"
	"math/rand"
	"testing"

	"latchkey/api"
	"latchkey/modular"
)

// sums: what the library answers for each call of P2.1 but Pow, ahead of being taken below the modulus.
func sums() map[string]func(a, b *big.Int) *big.Int {
	return map[string]func(a, b *big.Int) *big.Int{
		"Of":  func(a, b *big.Int) *big.Int { return a },
		"Add": func(a, b *big.Int) *big.Int { return new(big.Int).Add(a, b) },
		"Mul": func(a, b *big.Int) *big.Int { return new(big.Int).Mul(a, b) },
		"Sub": func(a, b *big.Int) *big.Int { return new(big.Int).Sub(a, b) },
	}
}

func TestP21OfAddMulSub(t *testing.T) {
	wanted := sums()
	for _, c := range calls() {
		sum := wanted[c.name]
		if sum == nil {
			continue
		}
		triples(func(a, b, m api.Nat) {
			got, err := c.do(a, b, m)
			modulus := value(m)
			if modulus.Sign() == 0 {
				refused(t, c.name, got, err, api.ErrZero, a, b, m)
				return
			}
			want := sum(value(a), value(b))
			same(t, c.name, got, err, want.Mod(want, modulus), a, b, m)
		})
	}
}

// pow: Pow holds against the library's.
func pow(t *testing.T, a, n, m api.Nat) {
	t.Helper()
	got, err := modular.Pow(a, n, m)
	modulus := value(m)
	if modulus.Sign() == 0 {
		refused(t, "Pow", got, err, api.ErrZero, a, n, m)
		return
	}
	want := new(big.Int).Exp(value(a), value(n), modulus)
	same(t, "Pow", got, err, want.Mod(want, modulus), a, n, m)
}

func TestP21Pow(t *testing.T) {
	small := []api.Nat{nil, {0, 0}, {1}, {2}, {3, 0}, {4}, {5}, {6, 0, 0}, {7}, {8}, {64}, {65537}, {top}, {0, 1}, {0, 1, 0}, {1, 1}, {top, top}}
	for _, m := range edges() {
		for _, n := range small {
			for _, a := range small {
				pow(t, a, n, m)
			}
			for _, a := range around(m) {
				pow(t, a, n, m)
			}
		}
	}
	r := rand.New(rand.NewSource(2))
	for range 400 {
		pow(t, random(r, 8), random(r, 4), random(r, 5))
	}
	for range 4 {
		pow(t, random(r, 64), random(r, 6), random(r, 64))
	}
}

func TestP21PowIsMultiplied(t *testing.T) {
	for m := range uint64(40) {
		if m == 0 {
			continue
		}
		for a := range uint64(45) {
			want := 1 % m
			for n := range uint64(20) {
				got, err := modular.Pow(api.Nat{a}, api.Nat{n}, api.Nat{m})
				same(t, "Pow", got, err, new(big.Int).SetUint64(want), a, n, m)
				want = want * a % m
			}
		}
	}
}

func TestP21PowOfNoExponent(t *testing.T) {
	for _, n := range []api.Nat{nil, {}, {0}, {0, 0, 0}} {
		for _, a := range []api.Nat{nil, {0}, {1}, {7}, {3, 4, 5}} {
			got, err := modular.Pow(a, n, api.Nat{7})
			same(t, "Pow", got, err, big.NewInt(1), a, n)
			got, err = modular.Pow(a, n, api.Nat{1, 0})
			same(t, "Pow", got, err, big.NewInt(0), a, n)
		}
	}
}

func TestP21Examples(t *testing.T) {
	got, err := modular.Sub(api.Nat{1}, api.Nat{3}, api.Nat{7})
	same(t, "Sub", got, err, big.NewInt(5))
	got, err = modular.Pow(api.Nat{2}, api.Nat{10}, api.Nat{1000})
	same(t, "Pow", got, err, big.NewInt(24))
}

func TestP21ModulusOfOne(t *testing.T) {
	for _, c := range calls() {
		for _, m := range []api.Nat{{1}, {1, 0}, {1, 0, 0}} {
			for _, a := range edges() {
				got, err := c.do(a, api.Nat{3, 1}, m)
				same(t, c.name, got, err, big.NewInt(0), a, m)
			}
		}
	}
}

func TestP21ModulusOfZero(t *testing.T) {
	for _, c := range calls() {
		for _, m := range []api.Nat{nil, {}, {0}, {0, 0, 0}} {
			for _, a := range edges() {
				got, err := c.do(a, api.Nat{3, 1}, m)
				refused(t, c.name, got, err, api.ErrZero, a, m)
			}
		}
	}
}
