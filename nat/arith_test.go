package nat_test

import (
	"math"
	"math/big"
	"slices"
	"testing"

	"latchkey/api"
	"latchkey/nat"
)

func TestP12Add(t *testing.T) {
	if got, want := nat.Add(api.Nat{top, top}, api.Nat{1}), (api.Nat{0, 0, 1}); !slices.Equal(got, want) {
		t.Errorf("Add: %x, not %x", got, want)
	}
	if got, want := nat.Add(api.Nat{1, 0, 0}, api.Nat{2, 0}), (api.Nat{3}); !slices.Equal(got, want) {
		t.Errorf("Add: %x, not %x", got, want)
	}
	pairs(func(a, b api.Nat) {
		same(t, "Add", nat.Add(a, b), new(big.Int).Add(value(a), value(b)), a, b)
	})
}

func TestP12Sub(t *testing.T) {
	if got, ok := nat.Sub(api.Nat{0, 0, 1}, api.Nat{1}); !ok || !slices.Equal(got, api.Nat{top, top}) {
		t.Errorf("Sub: %x %v", got, ok)
	}
	if got, ok := nat.Sub(api.Nat{1}, api.Nat{2}); ok || len(got) != 0 {
		t.Errorf("Sub(1, 2): %x %v", got, ok)
	}
	if got, ok := nat.Sub(api.Nat{top}, api.Nat{0, 1}); ok || len(got) != 0 {
		t.Errorf("Sub(2^64 - 1, 2^64): %x %v", got, ok)
	}
	pairs(func(a, b api.Nat) {
		got, ok := nat.Sub(a, b)
		want := new(big.Int).Sub(value(a), value(b))
		if want.Sign() >= 0 {
			same(t, "Sub", got, want, a, b)
		} else if len(got) != 0 {
			t.Fatalf("Sub(%x, %x): %x beside false", a, b, got)
		}
		if ok != (want.Sign() >= 0) {
			t.Fatalf("Sub(%x, %x): %v", a, b, ok)
		}
	})
}

func TestP12Mul(t *testing.T) {
	if got, want := nat.Mul(api.Nat{top, top}, api.Nat{top, top}), (api.Nat{1, 0, top - 1, top}); !slices.Equal(got, want) {
		t.Errorf("Mul: %x, not %x", got, want)
	}
	pairs(func(a, b api.Nat) {
		same(t, "Mul", nat.Mul(a, b), new(big.Int).Mul(value(a), value(b)), a, b)
	})
}

// divides: Div answers as the library does.
func divides(t *testing.T, a, b api.Nat) {
	t.Helper()
	q, r, ok := nat.Div(a, b)
	if value(b).Sign() == 0 {
		if ok || len(q) != 0 || len(r) != 0 {
			t.Fatalf("Div(%x, 0): %x %x %v", a, q, r, ok)
		}
		return
	}
	if !ok {
		t.Fatalf("Div(%x, %x): false", a, b)
	}
	often, left := new(big.Int).QuoRem(value(a), value(b), new(big.Int))
	same(t, "Div, how often", q, often, a, b)
	same(t, "Div, what is left", r, left, a, b)
}

func TestP12Div(t *testing.T) {
	q, r, ok := nat.Div(api.Nat{7}, api.Nat{2})
	if !ok || !slices.Equal(q, api.Nat{3}) || !slices.Equal(r, api.Nat{1}) {
		t.Errorf("Div(7, 2): %x %x %v", q, r, ok)
	}
	pairs(func(a, b api.Nat) { divides(t, a, b) })
}

// What a multiple leaves is 0, and what one less leaves is the greatest that may be left.
func TestP12DivNextToMultiples(t *testing.T) {
	one := api.Nat{1}
	pairs(func(a, b api.Nat) {
		product := nat.Mul(a, b)
		divides(t, product, b)
		divides(t, nat.Add(product, one), b)
		if less, ok := nat.Sub(product, one); ok {
			divides(t, less, b)
		}
	})
}

// Limbs of the quotient that the greatest limbs alone tell 1 or 2 too great.
func TestP12DivWhereTheGreatestLimbsMislead(t *testing.T) {
	cases := []struct{ a, b api.Nat }{
		{api.Nat{0, top, 1<<63 - 1}, api.Nat{top, 1 << 63}},
		{api.Nat{top, 0, 1 << 63}, api.Nat{top, 1 << 63}},
		{api.Nat{0, 0, 1 << 63, 1<<63 - 1}, api.Nat{1, 0, 1 << 63}},
		{api.Nat{3, 0, 1 << 63}, api.Nat{1, 0, 1 << 61}},
		{api.Nat{0, top - 1, top}, api.Nat{top, top}},
		{api.Nat{0, top, top - 1, top}, api.Nat{top, top - 1, top}},
	}
	for _, c := range cases {
		divides(t, c.a, c.b)
	}
}

func TestP12Shift(t *testing.T) {
	cases := []struct {
		a    api.Nat
		by   int
		want api.Nat
	}{
		{api.Nat{5}, 1, api.Nat{2}},
		{api.Nat{5}, -64, api.Nat{0, 5}},
		{api.Nat{5, 0}, 0, api.Nat{5}},
		{api.Nat{5}, 3, nil},
		{api.Nat{5}, 64, nil},
		{api.Nat{0, 5}, 64, api.Nat{5}},
		{api.Nat{top, 1}, 1, api.Nat{top}},
		{api.Nat{top}, -1, api.Nat{top - 1, 1}},
		{api.Nat{1 << 63}, -1, api.Nat{0, 1}},
		{api.Nat{5, 6}, math.MaxInt32, nil},
		{nil, math.MaxInt32, nil},
		{nil, -4096, nil},
	}
	for _, c := range cases {
		if got := nat.Shift(c.a, c.by); !slices.Equal(got, c.want) {
			t.Errorf("Shift(%x, %d): %x, not %x", c.a, c.by, got, c.want)
		}
	}
}

// shifted: what Shift must answer, by the library's reckoning.
func shifted(a api.Nat, by int) *big.Int {
	if by < 0 {
		return new(big.Int).Lsh(value(a), uint(-by))
	}
	return new(big.Int).Rsh(value(a), uint(by))
}

func TestP12ShiftByAll(t *testing.T) {
	for _, a := range []api.Nat{{1}, {0x8000000000000001, 0, 1, 0}, {top, top - 1, 1 << 63}} {
		for by := -4096; by <= 300; by++ {
			same(t, "Shift", nat.Shift(a, by), shifted(a, by), a, by)
		}
	}
	singles(func(a api.Nat) {
		for _, by := range []int{-4096, -4095, -4033, -4032, -129, -128, -127, -65, -64, -63, -1, 0, 1, 63, 64, 65, 127, 128, 192, 4095, 4096, math.MaxInt32 - 1, math.MaxInt32} {
			same(t, "Shift", nat.Shift(a, by), shifted(a, by), a, by)
		}
	})
}

// Beyond the shifts that the chapter names, a call still ends and does not panic (P1).
func TestP1ShiftBeyondItsRange(t *testing.T) {
	for _, a := range []api.Nat{nil, {0}, {5}, {0, 0, top}} {
		for _, by := range []int{math.MinInt, math.MinInt + 1, math.MinInt32, -4097, math.MaxInt32 + 1, math.MaxInt - 1, math.MaxInt} {
			if got := nat.Shift(a, by); len(got) != 0 {
				t.Errorf("Shift(%x, %d): %x, not 0", a, by, got)
			}
		}
	}
}
