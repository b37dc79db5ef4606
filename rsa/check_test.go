package rsa_test

import (
	"math/big"
	"math/rand"
	"testing"

	"latchkey/api"
	"latchkey/rsa"
)

// sized: the modulus has so many bytes, with limbs of 0 on top as well.
func sized(t *testing.T, n api.Nat, want int) {
	t.Helper()
	for _, n := range []api.Nat{n, padded(n)} {
		for _, e := range []api.Nat{nil, {3}, {1, 2, 3, 4}} {
			if got := rsa.Size(api.RsaKey{N: n, E: e}); got != want {
				t.Errorf("Size of %x: %d, not %d", n, got, want)
			}
		}
	}
}

func TestP91Size(t *testing.T) {
	sized(t, nil, 0)
	sized(t, api.Nat{0}, 0)
	sized(t, api.Nat{1}, 1)
	sized(t, api.Nat{255}, 1)
	sized(t, api.Nat{256}, 2)
	sized(t, api.Nat{top}, 8)
	sized(t, api.Nat{0, 1}, 9)
	for bytes := range 600 {
		edge := twoTo(uint(8 * bytes)) // the least of one byte more
		sized(t, limbsOf(plus(edge, -1)), bytes)
		sized(t, limbsOf(edge), bytes+1)
		sized(t, limbsOf(plus(edge, 1)), bytes+1)
	}
}

// The least and the greatest odd N of each Size.
func TestP91CheckOfSizes(t *testing.T) {
	three := big.NewInt(3)
	for size := range 600 {
		want := api.ErrKey
		if size >= 62 && size <= 256 {
			want = api.OK
		}
		if size > 1 {
			checks(t, "the least N of a Size", public(plus(twoTo(uint(8*size-8)), 1), three), want)
		}
		checks(t, "the greatest N of a Size", public(plus(twoTo(uint(8*size)), -1), three), want)
	}
}

func TestP91CheckOfSmallN(t *testing.T) {
	for n := range uint64(70) {
		for e := range uint64(70) {
			checks(t, "a small N", api.RsaKey{N: api.Nat{n}, E: api.Nat{e}}, api.ErrKey)
		}
	}
	checks(t, "nothing at all", api.RsaKey{}, api.ErrKey)
	checks(t, "an N of 0", api.RsaKey{E: api.Nat{3}}, api.ErrKey)
	checks(t, "an N of 1", api.RsaKey{N: api.Nat{1}, E: api.Nat{3}}, api.ErrKey)
	checks(t, "an N of limbs of 0", api.RsaKey{N: make(api.Nat, 32), E: api.Nat{3}}, api.ErrKey)
	checks(t, "a small N below many limbs of 0", api.RsaKey{N: append(api.Nat{15}, make(api.Nat, 31)...), E: api.Nat{3}}, api.ErrKey)
}

// moduli: N of Sizes that are taken, all odd.
func moduli() []*big.Int {
	out := []*big.Int{plus(twoTo(488), 1), plus(twoTo(496), -1), plus(twoTo(512), -1), plus(twoTo(512), 1), plus(twoTo(2040), 1), plus(twoTo(2048), -1)}
	for _, k := range products() {
		out = append(out, k.n)
	}
	return out
}

func TestP91CheckOfEvenNumbers(t *testing.T) {
	for _, n := range moduli() {
		checks(t, "odd N and E", public(n, big.NewInt(65537)), api.OK)
		checks(t, "an even N", public(plus(n, -1), big.NewInt(65537)), api.ErrKey)
		checks(t, "an even E", public(n, big.NewInt(65536)), api.ErrKey)
		checks(t, "an even N and E", public(plus(n, -1), big.NewInt(65536)), api.ErrKey)
		checks(t, "an even E of many limbs", public(n, plus(n, -1)), api.ErrKey)
		checks(t, "an odd E with its lowest limb 1", public(n, plus(twoTo(128), 1)), api.OK)
		checks(t, "an even E with its lowest limb 0", public(n, twoTo(128)), api.ErrKey)
	}
	checks(t, "an even N with its lowest limb 0", public(twoTo(1024), big.NewInt(3)), api.ErrKey)
	checks(t, "an even N with odd limbs above", public(plus(twoTo(1024), 4), big.NewInt(3)), api.ErrKey)
}

func TestP91CheckOfExponents(t *testing.T) {
	for _, n := range moduli() {
		for e, want := range []api.Errno{api.ErrKey, api.ErrKey, api.ErrKey, api.OK, api.ErrKey, api.OK, api.ErrKey, api.OK} {
			checks(t, "a small E", public(n, big.NewInt(int64(e))), want)
		}
		checks(t, "an E of N - 4", public(n, plus(n, -4)), api.OK)
		checks(t, "an E of N - 2", public(n, plus(n, -2)), api.OK)
		checks(t, "an E of N - 1", public(n, plus(n, -1)), api.ErrKey)
		checks(t, "an E of N", public(n, n), api.ErrKey)
		checks(t, "an E of N + 1", public(n, plus(n, 1)), api.ErrKey)
		checks(t, "an E of N + 2", public(n, plus(n, 2)), api.ErrKey)
		checks(t, "an E of a bit more", public(n, plus(twoTo(uint(n.BitLen())), 1)), api.ErrKey)
		checks(t, "an E far above", public(n, plus(twoTo(9000), 1)), api.ErrKey)
	}
	n := plus(twoTo(600), 1) // so that an E with the lowest limb of 1 isn't taken for 1
	checks(t, "an E whose lowest limb is 1", public(n, plus(twoTo(64), 1)), api.OK)
}

func TestP91CheckOfDrawnNumbers(t *testing.T) {
	draw := rand.New(rand.NewSource(5))
	seen := map[bool]int{}
	for range 20000 {
		n := new(big.Int).Rand(draw, twoTo(uint(460+draw.Intn(60))))
		if draw.Intn(2) == 0 {
			n.Rand(draw, twoTo(uint(2030+draw.Intn(30))))
		}
		e := new(big.Int).Rand(draw, twoTo(uint(draw.Intn(n.BitLen()+4))))
		for range draw.Intn(4) { // most of both are odd
			n.SetBit(n, 0, 1)
			e.SetBit(e, 0, 1)
		}
		want := api.ErrKey
		if isKey(public(n, e)) {
			want = api.OK
		}
		seen[want == api.OK]++
		checks(t, "drawn numbers", public(n, e), want)
	}
	if seen[true] < 1000 || seen[false] < 1000 {
		t.Errorf("too few of one kind: %v", seen)
	}
}
