package ecdsa_test

import (
	"math/rand"
	"testing"

	"latchkey/api"
	"latchkey/curve"
	"latchkey/ecdsa"
	"latchkey/nat"
)

// signature: a right one on the chapter's curve: the key, the hash, r and s.
func signature() (q api.Point, hash []byte, r, s api.Nat) {
	key, _ := example.mul(5, example.base())
	first, second, _ := example.sign(5, 7, 0x81)
	return key.point(), []byte{0x40, 0x80}, number(first), number(second)
}

// Without the key's part, r is the X of u G: whoever left nothing in would take this one.
func TestP82AKeyThatIsNothing(t *testing.T) {
	c := small()
	q, hash, r, s := signature()
	verifies(t, "a right signature", c, q, hash, r, s, true)
	q.Inf = true
	verifies(t, "a key that is nothing, with numbers", c, q, hash, r, s, false)
	verifies(t, "a key that is nothing", c, api.Point{Inf: true}, hash, r, s, false)
	for u := 1; u < example.n; u++ {
		sum, _ := example.mul(u, example.base())
		verifies(t, "X of u G by nothing", c, api.Point{Inf: true}, hashOf(t, c, u), number(sum.x), number(1), false)
	}
}

func TestP82AKeyThatIsNotOn(t *testing.T) {
	c := small()
	q, hash, r, s := signature()
	above := nat.Add(q.X, c.P)
	for _, wrong := range []api.Point{
		{X: above, Y: q.Y},
		{X: q.X, Y: nat.Add(q.Y, c.P)},
		{X: above, Y: nat.Add(q.Y, c.P)},
		{X: q.X, Y: nat.Add(q.Y, api.Nat{1})},
		{X: q.Y, Y: q.X},
		{X: q.X},
		{Y: q.Y},
		{},
		{X: api.Nat{0, 1}, Y: api.Nat{top, top, top, top, top}},
	} {
		verifies(t, "a key that is not On", c, wrong, hash, r, s, false)
	}
	c.B = api.Nat{5} // has no part in sums
	verifies(t, "a key of another curve", c, q, hash, r, s, false)
	c = small()
	c.P = nil
	verifies(t, "a P of 0", c, q, hash, r, s, false)
	verifies(t, "no curve at all", api.Curve{}, q, hash, r, s, false)
	verifies(t, "nothing at all", api.Curve{}, api.Point{}, nil, nil, nil, false)
}

// What is N more means the same modulo N, but isn't below it.
func TestP82NumbersThatAreNotFromOneUpToBelowN(t *testing.T) {
	for _, c := range []api.Curve{small(), p256()} {
		q, hash, r, s := signature()
		if nat.Len(c.P) > 8 {
			q, hash, r, s = sample()
		}
		verifies(t, "a right signature", c, q, hash, r, s, true)
		for _, wrong := range []api.Nat{nil, {0}, {0, 0}, c.N, nat.Add(c.N, api.Nat{1}), nat.Add(c.N, c.N), {top, top, top, top, top}, {0, 0, 0, 0, 1}} {
			verifies(t, "a wrong r", c, q, hash, wrong, s, false)
			verifies(t, "a wrong s", c, q, hash, r, wrong, false)
			verifies(t, "a wrong r and s", c, q, hash, wrong, wrong, false)
		}
		for _, times := range []api.Nat{{1}, {2}, {top}, {0, 0, 0, 0, 0, 0, 1}} {
			more := nat.Mul(c.N, times)
			verifies(t, "an r of so many N more", c, q, hash, nat.Add(r, more), s, false)
			verifies(t, "an s of so many N more", c, q, hash, r, nat.Add(s, more), false)
		}
	}
}

// With an r of 0 the sum is u G, whose X may be 0 as well.
func TestP82AnROfZeroThatIsX(t *testing.T) {
	for _, c := range []plain{compositeP, both, tiny} {
		for _, zero := range []api.Nat{nil, {}, {0}, {0, 0, 0}} {
			verifies(t, "an r of 0 beside an X of 0", c.curve(), c.base().point(), hashOf(t, c.curve(), 1), zero, number(1), false)
		}
	}
}

// The sum's X is N or more: r is what is left of it; X itself isn't below N.
func TestP82AnXThatIsNotBelowNIsNoR(t *testing.T) {
	c, above, alike := smallN.curve(), 0, 0
	for _, q := range smallN.spots() {
		switch {
		case q.x < smallN.n:
			continue
		case q.x == smallN.n: // 0 is left, which no r is
			alike++
			verifies(t, "an X of N", c, q.point(), nil, nil, number(1), false)
			verifies(t, "N itself as r", c, q.point(), nil, number(q.x), number(1), false)
			continue
		}
		above++
		r := number(q.x - smallN.n)
		verifies(t, "r as what is left of X", c, q.point(), nil, r, r, true)
		verifies(t, "X itself as r", c, q.point(), nil, number(q.x), r, false)
		verifies(t, "X itself as r and s", c, q.point(), nil, number(q.x), number(q.x), false)
	}
	if above == 0 || alike == 0 {
		t.Errorf("%d points with an X above N, %d with one of N", above, alike)
	}
}

// The least and the greatest r and s: each of them stands in signatures that are right.
func TestP82TheEdgesOfRAndS(t *testing.T) {
	c, program := smallN, smallN.curve()
	found := map[string]int{}
	edge := func(name string, q spot, digest, r, s int) {
		t.Helper()
		want := c.judge(q, digest, r, s).holds()
		verifies(t, name, program, q.point(), hashOf(t, program, digest), number(r), number(s), want)
		if want {
			found[name]++
		}
	}
	last := c.n - 1
	for _, q := range c.spots() {
		for _, digest := range []int{0, 1, last, c.n} {
			for other := range c.n {
				edge("an r of 1", q, digest, 1, other)
				edge("an r of N - 1", q, digest, last, other)
				edge("an s of 1", q, digest, other, 1)
				edge("an s of N - 1", q, digest, other, last)
			}
		}
	}
	if len(found) < 4 {
		t.Errorf("right signatures at these edges alone: %v", found)
	}
}

// drawnNat: a number of up to so many limbs; about half of them stand at an edge.
func drawnNat(r *rand.Rand, limbs int) api.Nat {
	a := make(api.Nat, r.Intn(limbs+1))
	for i := range a {
		a[i] = []uint64{0, 1, 3, top, 1 << 63, r.Uint64(), r.Uint64(), r.Uint64() >> 50}[r.Intn(8)]
	}
	return a
}

// Whatever is handed in, a right curve or not, each call ends; what is no key or no signature is refused.
func TestP1DrawnArguments(t *testing.T) {
	r := rand.New(rand.NewSource(5))
	right := []api.Curve{small(), p256(), smallN.curve(), compositeN.curve(), compositeP.curve(), tiny.curve()}
	for range 3000 {
		c := right[r.Intn(len(right))]
		if r.Intn(3) == 0 {
			c = api.Curve{P: drawnNat(r, 2), A: drawnNat(r, 2), B: drawnNat(r, 2), Gx: drawnNat(r, 2), Gy: drawnNat(r, 2), N: drawnNat(r, 2)}
		}
		q := api.Point{X: drawnNat(r, 5), Y: drawnNat(r, 5), Inf: r.Intn(8) == 0}
		if r.Intn(3) == 0 {
			q = api.Point{X: c.Gx, Y: c.Gy}
		}
		hash := make([]byte, []int{0, 1, 2, 32, 512, 513, 600}[r.Intn(7)])
		r.Read(hash)
		first, second := drawnNat(r, 5), drawnNat(r, 5)
		digest := ecdsa.Digest(c, hash)
		if nat.Len(digest) > nat.Len(c.N) || len(digest) > 0 && digest[len(digest)-1] == 0 {
			t.Errorf("Digest of %x, N %v: %v", hash, c.N, digest)
		}
		wrong := q.Inf || !curve.On(c, q) || nat.Cmp(first, c.N) >= 0 || nat.Cmp(second, c.N) >= 0
		if ecdsa.Verify(c, q, hash, first, second) && wrong {
			t.Errorf("Verify of %v, %v, %x, %v, %v: true", c, q, hash, first, second)
		}
	}
}
