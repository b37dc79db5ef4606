package nat_test

import (
	"math"
	"math/big"
	"math/rand"
	"slices"
	"testing"

	"latchkey/api"
)

const top = uint64(math.MaxUint64)

// value: the number by the library's reckoning, which the tests hold the answers against.
func value(a api.Nat) *big.Int {
	b := make([]byte, 0, 8*len(a))
	for i := range a {
		limb := a[len(a)-1-i]
		for shift := 56; shift >= 0; shift -= 8 {
			b = append(b, byte(limb>>shift))
		}
	}
	return new(big.Int).SetBytes(b)
}

// same: the answer is that number, and has no limb of 0 above the greatest one.
func same(t *testing.T, what string, got api.Nat, want *big.Int, args ...any) {
	t.Helper()
	if n := len(got); n > 0 && got[n-1] == 0 {
		t.Fatalf("%s %x: answer %x has a limb of 0 above the greatest one", what, args, got)
	}
	if value(got).Cmp(want) != 0 {
		t.Fatalf("%s %x: %x, not %x", what, args, got, want)
	}
}

// edges: all numbers of up to three limbs that stand at an edge, limbs of 0 above the greatest one among them.
func edges() []api.Nat {
	limbs := []uint64{0, 1, 1<<63 - 1, 1 << 63, top - 1, top}
	out := []api.Nat{nil, {}}
	last := []api.Nat{{}}
	for range 3 {
		var next []api.Nat
		for _, a := range last {
			for _, l := range limbs {
				next = append(next, append(slices.Clone(a), l))
			}
		}
		out = append(out, next...)
		last = next
	}
	return out
}

// random: a number of up to so many limbs, drawn with a seed so that each run is the same; about half of the limbs stand at an edge.
func random(r *rand.Rand, limbs int) api.Nat {
	a := make(api.Nat, r.Intn(limbs+1))
	for i := range a {
		switch r.Intn(8) {
		case 0:
			a[i] = 0
		case 1:
			a[i] = top
		case 2:
			a[i] = 1 << 63
		case 3:
			a[i] = r.Uint64() >> r.Intn(64)
		default:
			a[i] = r.Uint64()
		}
	}
	return a
}

// pairs: calls try with all pairs of edges, and with random pairs of many limbs.
func pairs(try func(a, b api.Nat)) {
	all := edges()
	for _, a := range all {
		for _, b := range all {
			try(a, b)
		}
	}
	r := rand.New(rand.NewSource(1))
	for range 4000 {
		try(random(r, 12), random(r, 6))
	}
	for range 200 {
		try(random(r, 130), random(r, 66))
	}
}

// singles: calls try with all edges, and with random numbers of many limbs.
func singles(try func(a api.Nat)) {
	for _, a := range edges() {
		try(a)
	}
	r := rand.New(rand.NewSource(2))
	for range 500 {
		try(random(r, 70))
	}
}
