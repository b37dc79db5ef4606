package nat_test

import (
	"math/big"
	"slices"
	"testing"

	"latchkey/api"
	"latchkey/nat"
)

func TestP11NormDropsLimbsOfZero(t *testing.T) {
	cases := []struct{ a, want api.Nat }{
		{nil, nil},
		{api.Nat{}, nil},
		{api.Nat{0}, nil},
		{api.Nat{0, 0, 0}, nil},
		{api.Nat{7}, api.Nat{7}},
		{api.Nat{7, 0}, api.Nat{7}},
		{api.Nat{0, 7}, api.Nat{0, 7}},
		{api.Nat{0, 7, 0, 0}, api.Nat{0, 7}},
		{api.Nat{1, 0, top, 0}, api.Nat{1, 0, top}},
	}
	for _, c := range cases {
		if got := nat.Norm(c.a); !slices.Equal(got, c.want) {
			t.Errorf("Norm(%x): %x, not %x", c.a, got, c.want)
		}
	}
	singles(func(a api.Nat) { same(t, "Norm", nat.Norm(a), value(a), a) })
}

func TestP11Of(t *testing.T) {
	if got := nat.Of(0); len(got) != 0 {
		t.Errorf("Of(0): %x", got)
	}
	for _, n := range []uint64{1, 2, 255, 1 << 32, 1 << 63, top} {
		if got := nat.Of(n); !slices.Equal(got, api.Nat{n}) {
			t.Errorf("Of(%x): %x", n, got)
		}
	}
}

func TestP11Len(t *testing.T) {
	cases := []struct {
		a    api.Nat
		want int
	}{
		{nil, 0},
		{api.Nat{}, 0},
		{api.Nat{0, 0}, 0},
		{api.Nat{1}, 1},
		{api.Nat{255}, 8},
		{api.Nat{256}, 9},
		{api.Nat{top}, 64},
		{api.Nat{0, 1}, 65},
		{api.Nat{0, 1, 0}, 65},
		{api.Nat{0, 0, 1 << 63}, 192},
	}
	for _, c := range cases {
		if got := nat.Len(c.a); got != c.want {
			t.Errorf("Len(%x): %d, not %d", c.a, got, c.want)
		}
	}
	singles(func(a api.Nat) {
		if got, want := nat.Len(a), value(a).BitLen(); got != want {
			t.Fatalf("Len(%x): %d, not %d", a, got, want)
		}
	})
}

// bit is what Bits tells of one place.
type bit struct {
	place int
	set   bool
}

// bitsOf: all that Bits tells in one going over.
func bitsOf(l func(func(int, bool) bool)) []bit {
	var out []bit
	for place, set := range l {
		out = append(out, bit{place, set})
	}
	return out
}

func TestP11Bits(t *testing.T) {
	if got, want := bitsOf(nat.Bits(api.Nat{5, 0})), []bit{{2, true}, {1, false}, {0, true}}; !slices.Equal(got, want) {
		t.Errorf("Bits(5): %v, not %v", got, want)
	}
	for _, zero := range []api.Nat{nil, {}, {0}, {0, 0}} {
		if got := bitsOf(nat.Bits(zero)); len(got) != 0 {
			t.Errorf("Bits(0): %v", got)
		}
	}
	singles(func(a api.Nat) {
		v := value(a)
		want := make([]bit, v.BitLen())
		for i := range want {
			place := v.BitLen() - 1 - i
			want[i] = bit{place, v.Bit(place) == 1}
		}
		if got := bitsOf(nat.Bits(a)); !slices.Equal(got, want) {
			t.Fatalf("Bits(%x): %v", a, got)
		}
	})
}

func TestP11BitsAsOftenAsGoneOver(t *testing.T) {
	l := nat.Bits(api.Nat{6, 1})
	first := bitsOf(l)
	if len(first) != 65 {
		t.Fatalf("Bits: %d bits, not 65", len(first))
	}
	seen := 0
	for place, set := range l {
		if seen++; place == 62 {
			if set {
				t.Error("Bits: bit 62 is not set")
			}
			break
		}
	}
	if seen != 3 {
		t.Errorf("Bits: %d bits until 62, not 3", seen)
	}
	if again := bitsOf(l); !slices.Equal(again, first) {
		t.Error("Bits: gone over again, it tells something else")
	}
}

func TestP11Cmp(t *testing.T) {
	cases := []struct {
		a, b api.Nat
		want int
	}{
		{nil, api.Nat{}, 0},
		{nil, api.Nat{0, 0}, 0},
		{api.Nat{0}, api.Nat{1}, -1},
		{api.Nat{1, 0}, api.Nat{1}, 0},
		{api.Nat{1}, api.Nat{1, 0, 0}, 0},
		{api.Nat{2}, api.Nat{1, 0}, 1},
		{api.Nat{top}, api.Nat{0, 1}, -1},
		{api.Nat{1, 2}, api.Nat{2, 1}, 1},
		{api.Nat{1 << 63}, api.Nat{1}, 1},
	}
	for _, c := range cases {
		if got := nat.Cmp(c.a, c.b); got != c.want {
			t.Errorf("Cmp(%x, %x): %d, not %d", c.a, c.b, got, c.want)
		}
	}
	pairs(func(a, b api.Nat) {
		if got, want := nat.Cmp(a, b), value(a).Cmp(value(b)); got != want {
			t.Fatalf("Cmp(%x, %x): %d, not %d", a, b, got, want)
		}
	})
}

// The number 0, in each way in which it may be handed in, is the same number everywhere (R5).
func TestR5EmptyNilAndZeroAreAlike(t *testing.T) {
	five := api.Nat{5}
	for _, zero := range []api.Nat{nil, {}, {0}, {0, 0, 0}} {
		same(t, "Add", nat.Add(zero, five), big.NewInt(5))
		same(t, "Add", nat.Add(five, zero), big.NewInt(5))
		same(t, "Mul", nat.Mul(zero, five), new(big.Int))
		same(t, "Mul", nat.Mul(five, zero), new(big.Int))
		same(t, "Shift", nat.Shift(zero, -4096), new(big.Int))
		same(t, "Shift", nat.Shift(zero, 1), new(big.Int))
		if d, ok := nat.Sub(five, zero); !ok || !slices.Equal(d, five) {
			t.Errorf("Sub(5, 0): %x %v", d, ok)
		}
		if d, ok := nat.Sub(zero, zero); !ok || len(d) != 0 {
			t.Errorf("Sub(0, 0): %x %v", d, ok)
		}
		if q, r, ok := nat.Div(zero, five); !ok || len(q) != 0 || len(r) != 0 {
			t.Errorf("Div(0, 5): %x %x %v", q, r, ok)
		}
		if q, r, ok := nat.Div(five, zero); ok || len(q) != 0 || len(r) != 0 {
			t.Errorf("Div(5, 0): %x %x %v", q, r, ok)
		}
		if b, ok := nat.Bytes(zero, 2); !ok || string(b) != "\x00\x00" {
			t.Errorf("Bytes(0, 2): %x %v", b, ok)
		}
	}
	for _, empty := range [][]byte{nil, {}} {
		if a, e := nat.Read(empty); e != api.OK || len(a) != 0 {
			t.Errorf("Read of nothing: %x %d", a, e)
		}
	}
}
