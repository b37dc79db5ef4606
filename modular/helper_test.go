package modular_test

import (
	"math"
	"math/big"
	"math/rand"
	"slices"
	"testing"

	"latchkey/api"
	"latchkey/modular"
)

const top = uint64(math.MaxUint64)

// value: the number by the library's reckoning, which the tests hold the answers against.
func value(a api.Nat) *big.Int {
	b := make([]byte, 0, 8*len(a))
	for i := range a {
		limb := a[len(a)-1-i]
		for shift := 56; shift >= 0; shift -= 8 {
			b = append(b, byte(limb>>shift))
		}
	}
	return new(big.Int).SetBytes(b)
}

// same: there is no error, and the answer is that number, without limbs of 0 above the greatest one.
func same(t *testing.T, what string, got api.Nat, err api.Errno, want *big.Int, args ...any) {
	t.Helper()
	if err != api.OK {
		t.Fatalf("%s %x: error %d", what, args, err)
	}
	if n := len(got); n > 0 && got[n-1] == 0 {
		t.Fatalf("%s %x: answer %x has a limb of 0 above the greatest one", what, args, got)
	}
	if value(got).Cmp(want) != 0 {
		t.Fatalf("%s %x: %x, not %x", what, args, got, want)
	}
}

// refused: the answer is just that error, and no number stands beside it.
func refused(t *testing.T, what string, got api.Nat, err, want api.Errno, args ...any) {
	t.Helper()
	if err != want || len(got) != 0 {
		t.Fatalf("%s %x: %x, error %d; not none, error %d", what, args, got, err, want)
	}
}

// edges: numbers of up to two limbs that stand at an edge, with limbs of 0 above the greatest one among them.
func edges() []api.Nat {
	limbs := []uint64{0, 1, 2, 3, 1 << 63, top - 1, top}
	out := []api.Nat{nil, {}, {0, 0, 0}, {1, 0, 0}, {6}, {7}, {top, 0, 0}}
	for _, low := range limbs {
		out = append(out, api.Nat{low})
		for _, high := range limbs {
			out = append(out, api.Nat{low, high})
		}
	}
	return out
}

// around: a modulus itself and what stands next to it and to its double, with limbs of 0 on top as well.
func around(m api.Nat) []api.Nat {
	var out []api.Nat
	for _, by := range []int64{1, 2} {
		for _, more := range []int64{-1, 0, 1} {
			n := new(big.Int).Mul(value(m), big.NewInt(by))
			n.Add(n, big.NewInt(more))
			if n.Sign() < 0 {
				continue
			}
			out = append(out, limbsOf(n), append(limbsOf(n), 0, 0))
		}
	}
	return out
}

// limbsOf: the limbs of a number of the library's.
func limbsOf(n *big.Int) api.Nat {
	var out api.Nat
	mask := new(big.Int).SetUint64(top)
	for left := new(big.Int).Set(n); left.Sign() > 0; left.Rsh(left, 64) {
		out = append(out, new(big.Int).And(left, mask).Uint64())
	}
	return out
}

// random: a number of up to so many limbs, drawn with a seed so that each run is the same; about half of the limbs stand at an edge.
func random(r *rand.Rand, limbs int) api.Nat {
	a := make(api.Nat, r.Intn(limbs+1))
	for i := range a {
		switch r.Intn(8) {
		case 0:
			a[i] = 0
		case 1:
			a[i] = top
		case 2:
			a[i] = 1 << 63
		case 3:
			a[i] = r.Uint64() >> r.Intn(64)
		default:
			a[i] = r.Uint64()
		}
	}
	return a
}

// triples: calls try with edges in all three places, with numbers around each modulus, and with random numbers.
func triples(try func(a, b, m api.Nat)) {
	all := edges()
	for _, m := range all {
		for _, a := range all {
			for _, b := range all {
				try(a, b, m)
			}
		}
		near := around(m)
		for _, a := range near {
			for _, b := range near {
				try(a, b, m)
			}
		}
	}
	r := rand.New(rand.NewSource(1))
	for range 4000 {
		try(random(r, 9), random(r, 9), random(r, 5))
	}
	for range 50 {
		try(random(r, 64), random(r, 64), random(r, 64))
	}
}

// call: one way to call the package with three numbers.
type call struct {
	name string
	do   func(a, b, m api.Nat) (api.Nat, api.Errno)
}

// calls: all of the package's.
func calls() []call {
	return []call{
		{"Of", func(a, b, m api.Nat) (api.Nat, api.Errno) { return modular.Of(a, m) }},
		{"Add", modular.Add},
		{"Mul", modular.Mul},
		{"Sub", modular.Sub},
		{"Pow", modular.Pow},
		{"Inv", func(a, b, m api.Nat) (api.Nat, api.Errno) { return modular.Inv(a, m) }},
	}
}

// roomy: the number in memory with spare room behind it, and all of that memory.
func roomy(a api.Nat) (api.Nat, api.Nat) {
	all := append(slices.Clone(a), 11, 12, 13, 14)
	return all[:len(a)], all
}

// spoil: writes over a list, its spare room included.
func spoil(a api.Nat) {
	a = a[:cap(a)]
	for i := range a {
		a[i] = 0xdead
	}
}
