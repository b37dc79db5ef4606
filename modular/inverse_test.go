package modular_test

import (
	"math/big"
	"math/rand"
	"testing"

	"latchkey/api"
	"latchkey/modular"
)

// inv: Inv holds against the chapter's words, by the library's divisors and products.
func inv(t *testing.T, a, m api.Nat) {
	t.Helper()
	got, err := modular.Inv(a, m)
	number, modulus := value(a), value(m)
	if modulus.Sign() == 0 {
		refused(t, "Inv", got, err, api.ErrZero, a, m)
		return
	}
	one := big.NewInt(1)
	if new(big.Int).GCD(nil, nil, number, modulus).Cmp(one) != 0 {
		refused(t, "Inv", got, err, api.ErrInv, a, m)
		return
	}
	same(t, "Inv", got, err, value(got), a, m)
	if value(got).Cmp(modulus) >= 0 {
		t.Fatalf("Inv(%x, %x): %x isn't below the modulus", a, m, got)
	}
	product := new(big.Int).Mul(value(got), number)
	if product.Mod(product, modulus).Cmp(one.Mod(one, modulus)) != 0 {
		t.Fatalf("Inv(%x, %x): %x doesn't give 1", a, m, got)
	}
}

func TestP22InvOfSmallNumbers(t *testing.T) {
	for m := range uint64(130) {
		for a := range uint64(300) {
			inv(t, api.Nat{a}, api.Nat{m})
			inv(t, api.Nat{a, 0}, api.Nat{m, 0, 0})
		}
	}
}

func TestP22InvOfEdges(t *testing.T) {
	for _, m := range edges() {
		for _, a := range edges() {
			inv(t, a, m)
		}
		for _, a := range around(m) {
			inv(t, a, m)
		}
	}
}

func TestP22InvOfManyLimbs(t *testing.T) {
	r := rand.New(rand.NewSource(3))
	for range 3000 {
		inv(t, random(r, 9), random(r, 5))
	}
	for range 30 {
		inv(t, random(r, 70), random(r, 64))
	}
}

// Both numbers are multiplied by a third one, so that it divides them together, though they are great.
func TestP22InvOfWhatHasADivisor(t *testing.T) {
	r := rand.New(rand.NewSource(4))
	for range 500 {
		divisor := new(big.Int).Add(value(random(r, 2)), big.NewInt(2))
		a := new(big.Int).Mul(value(random(r, 4)), divisor)
		m := new(big.Int).Add(value(random(r, 4)), big.NewInt(1))
		m.Mul(m, divisor)
		got, err := modular.Inv(limbsOf(a), limbsOf(m))
		refused(t, "Inv", got, err, api.ErrInv, a, m)
	}
}

func TestP22InvBelowPrimes(t *testing.T) {
	r := rand.New(rand.NewSource(5))
	for _, text := range []string{
		"ffffffff00000001000000000000000000000000ffffffffffffffffffffffff",
		"ffffffff00000000ffffffffffffffffbce6faada7179e84f3b9cac2fc632551",
		"7fffffffffffffffffffffffffffffff",
	} {
		prime, _ := new(big.Int).SetString(text, 16)
		for range 200 {
			a := random(r, 4)
			got, err := modular.Inv(a, limbsOf(prime))
			want := new(big.Int).ModInverse(value(a), prime)
			if want == nil {
				refused(t, "Inv", got, err, api.ErrInv, a, prime)
				continue
			}
			same(t, "Inv", got, err, want, a, prime)
		}
	}
}

func TestP22Examples(t *testing.T) {
	got, err := modular.Inv(api.Nat{3}, api.Nat{7})
	same(t, "Inv", got, err, big.NewInt(5))
	got, err = modular.Inv(api.Nat{2}, api.Nat{4})
	refused(t, "Inv", got, err, api.ErrInv)
}

func TestP22InvOfZero(t *testing.T) {
	for _, a := range []api.Nat{nil, {}, {0, 0}, {7}, {14, 0}} {
		got, err := modular.Inv(a, api.Nat{7})
		refused(t, "Inv", got, err, api.ErrInv, a, 7)
		got, err = modular.Inv(a, api.Nat{1})
		same(t, "Inv", got, err, big.NewInt(0), a, 1)
		got, err = modular.Inv(a, nil)
		refused(t, "Inv", got, err, api.ErrZero, a, 0)
	}
}
