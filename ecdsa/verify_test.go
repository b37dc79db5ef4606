package ecdsa_test

import (
	"testing"

	"latchkey/api"
	"latchkey/ecdsa"
	"latchkey/nat"
)

// hashOf: bytes of just that digest; N has at most 9 bits.
func hashOf(t *testing.T, c api.Curve, digest int) []byte {
	t.Helper()
	left := 16 - nat.Len(c.N)
	hash := []byte{byte(digest << left >> 8), byte(digest << left)}
	if got := ecdsa.Digest(c, hash); nat.Cmp(got, nat.Of(uint64(digest))) != 0 {
		t.Fatalf("Digest of %x: %v, not %d", hash, got, digest)
	}
	return hash
}

// number: a small number as the program takes it.
func number(n int) api.Nat { return nat.Of(uint64(n)) }

// judged: all r and s from 0 up to N and some above, by all keys, are answered as the judge says; how often each outcome was met.
func judged(t *testing.T, c plain, digests ...int) [outcomes]int {
	t.Helper()
	var met [outcomes]int
	program := c.curve()
	for _, digest := range digests {
		hash := hashOf(t, program, digest)
		for _, q := range c.spots() {
			for r := range c.n + 2 {
				for s := range c.n + 2 {
					want := c.judge(q, digest, r, s)
					met[want]++
					if ecdsa.Verify(program, q.point(), hash, number(r), number(s)) != want.holds() {
						t.Fatalf("%v: q %v, digest %d, r %d, s %d: not %v", c, q, digest, r, s, want.holds())
					}
				}
			}
		}
	}
	return met
}

// hasMet: each of these was among the outcomes.
func hasMet(t *testing.T, met [outcomes]int, which ...outcome) {
	t.Helper()
	for _, each := range which {
		if met[each] == 0 {
			t.Errorf("no signature ended with outcome %d: %v", each, met)
		}
	}
}

func TestP82AllSmallSignatures(t *testing.T) {
	met := judged(t, greatN, 0, 1, 7, 18, 19, 31)
	hasMet(t, met, outOfRange, isNothing, otherX, right)
	met = judged(t, tiny, 0, 1, 2, 3)
	hasMet(t, met, outOfRange, isNothing, otherX, greatX)
}

// Where P is greater than N, an X of N or more is r up to multiples of N.
func TestP82AnXOfNOrMore(t *testing.T) {
	met := judged(t, smallN, 0, 1, 19, 20)
	hasMet(t, met, outOfRange, isNothing, otherX, greatX, right)
}

func TestP82AnSWithoutAnInverse(t *testing.T) {
	met := judged(t, compositeN, 0, 3, 28)
	hasMet(t, met, outOfRange, noInverse, isNothing, otherX, right)
}

// Where P is no prime, u G, v q or their sum may be a point that can't be told.
func TestP82ASumThatCantBeTold(t *testing.T) {
	met := judged(t, compositeP, 0, 2, 36)
	hasMet(t, met, noInverse, firstUntold, secondUntold, sumUntold, isNothing, otherX, right)
	met = judged(t, both, 0, 1, 4, 9, 15)
	hasMet(t, met, noInverse, firstUntold, secondUntold, sumUntold, isNothing, otherX, right)
}

// All secrets of the example's curve sign, and another digest, key, r or s is judged as the chapter says.
func TestP82SignaturesOnTheExample(t *testing.T) {
	c, program := example, example.curve()
	for secret := 1; secret < c.n; secret++ {
		draw, digest := secret*7%270+1, secret*31%512
		q, _ := c.mul(secret, c.base())
		r, s, ok := c.sign(secret, draw, digest)
		if !ok {
			continue
		}
		hash := hashOf(t, program, digest)
		verifies(t, "a right signature", program, q.point(), hash, number(r), number(s), true)
		near := func(what string, q spot, digest, r, s int) {
			t.Helper()
			verifies(t, what, program, q.point(), hashOf(t, program, digest), number(r), number(s), c.judge(q, digest, r, s).holds())
		}
		other, _ := c.mul(secret%270+1, c.base())
		near("another hash", q, (digest+1)%512, r, s)
		near("another key", other, digest, r, s)
		near("the opposite key", spot{x: q.x, y: c.p - q.y}, digest, r, s)
		near("another r", q, digest, r+1, s)
		near("another s", q, digest, r, s+1)
		near("r and s changed over", q, digest, s, r)
		near("the opposite s", q, digest, r, c.n-s)
		if !c.judge(q, digest, r, c.n-s).holds() {
			t.Errorf("the opposite s of secret %d is no signature: one of X alone asks for no Y", secret)
		}
	}
}

// Only the first bits of the hash are signed.
func TestP82ALongerHash(t *testing.T) {
	c := small()
	q, _ := example.mul(5, example.base())
	r, s, _ := example.sign(5, 7, 0x81)
	for _, hash := range [][]byte{{0x40, 0x80}, {0x40, 0xff}, {0x40, 0x80, 0}, append([]byte{0x40, 0x93}, make([]byte, 510)...)} {
		verifies(t, "the same first bits", c, q.point(), hash, number(r), number(s), true)
	}
	verifies(t, "one byte of the same number", c, q.point(), []byte{0x81}, number(r), number(s), true)
	verifies(t, "a digest that is N more", c, q.point(), hashOf(t, c, 0x81+271), number(r), number(s), true)
	for _, hash := range [][]byte{nil, {0x40}, {0x40, 0x00}, {0xc0, 0x80}, {0x00, 0x40, 0x80}, {0x80}, {0x82}} {
		verifies(t, "other first bits", c, q.point(), hash, number(r), number(s), false)
	}
}

// With a digest of 0 and an s that is r, u is 0 and v is 1: the sum is q itself, so that an r of its X is refused for nothing but q or r.
func TestP82EachPointOfTheField(t *testing.T) {
	c := small()
	for x := range 2 * example.p {
		for y := range 2 * example.p {
			r := number(x % example.n)
			within := x < example.p && y < example.p && example.on(x, y)
			want := within && x%example.n > 0
			if ecdsa.Verify(c, spot{x: x, y: y}.point(), nil, r, r) != want {
				t.Fatalf("Verify by (%d, %d) of r and s %d: not %v", x, y, x, want)
			}
		}
	}
}

// A u of 0, in each way in which a digest may be a multiple of N.
func TestP82AUOfZero(t *testing.T) {
	c := small()
	for k := 1; k < example.n; k++ {
		q, _ := example.mul(k, example.base())
		double, _ := example.mul(2, q)
		r := double.x % example.n
		half, _ := inverse(2, example.n)
		s := r * half % example.n // v is 2
		for _, hash := range [][]byte{nil, {0}, {0, 0, 0}, {0x87, 0x80}, {0x87, 0xff, 0xff}} {
			verifies(t, "a u of 0", c, q.point(), hash, number(r), number(s), r > 0)
			verifies(t, "a u of 0 and another s", c, q.point(), hash, number(r), number(s+1), example.judge(q, 0, r, s+1).holds())
		}
		verifies(t, "a u that isn't 0", c, q.point(), []byte{0x87, 0x00}, number(r), number(s), example.judge(q, 270, r, s).holds())
	}
}

// By the key G, with a digest that is the opposite of r, u and v give nothing together.
func TestP82ASumThatIsNothing(t *testing.T) {
	c := small()
	for r := 1; r < example.n; r++ {
		for _, s := range []int{1, 2, r, 270} {
			if example.judge(example.base(), 271-r, r, s) != isNothing {
				t.Fatalf("r %d, s %d: not nothing", r, s)
			}
			verifies(t, "a sum that is nothing", c, example.base().point(), hashOf(t, c, 271-r), number(r), number(s), false)
		}
	}
	wide := p256()
	one, seven := api.Nat{1}, api.Nat{7}
	hash, _ := nat.Bytes(less(wide.N, seven), 32)
	verifies(t, "a sum that is nothing on P-256", wide, api.Point{X: wide.Gx, Y: wide.Gy}, hash, seven, one, false)
}
