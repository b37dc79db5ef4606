package ecdsa_test

import (
	"math"
	"math/big"
	"slices"
	"testing"

	"latchkey/api"
	"latchkey/curve"
	"latchkey/ecdsa"
	"latchkey/nat"
)

const top = uint64(math.MaxUint64)

// at: the point of two small numbers.
func at(x, y uint64) api.Point { return api.Point{X: api.Nat{x}, Y: api.Nat{y}} }

// small: the chapter's curve.
func small() api.Curve {
	return api.Curve{Alg: -7, Crv: 1, Oid: []uint64{1, 3, 132, 0}, P: api.Nat{251}, A: api.Nat{1}, B: api.Nat{4}, Gx: api.Nat{7}, Gy: api.Nat{75}, N: api.Nat{271}}
}

// hexNat: the limbs of a number that is written in base sixteen.
func hexNat(text string) api.Nat {
	n, ok := new(big.Int).SetString(text, 16)
	if !ok {
		panic(text)
	}
	return limbsOf(n)
}

// p256: the curve that NIST names P-256 (FIPS 186-4, D.1.2.3).
func p256() api.Curve {
	return api.Curve{
		P:  hexNat("ffffffff00000001000000000000000000000000ffffffffffffffffffffffff"),
		A:  hexNat("ffffffff00000001000000000000000000000000fffffffffffffffffffffffc"),
		B:  hexNat("5ac635d8aa3a93e7b3ebbd55769886bc651d06b0cc53b0f63bce3c3e27d2604b"),
		Gx: hexNat("6b17d1f2e12c4247f8bce6e563a440f277037d812deb33a0f4a13945d898c296"),
		Gy: hexNat("4fe342e2fe1a7f9b8ee7eb4a7c0f9e162bce33576b315ececbb6406837bf51f5"),
		N:  hexNat("ffffffff00000000ffffffffffffffffbce6faada7179e84f3b9cac2fc632551"),
	}
}

// value: the number by the library's reckoning, which the tests hold the answers against.
func value(a api.Nat) *big.Int {
	b := make([]byte, 0, 8*len(a))
	for _, limb := range slices.Backward(a) {
		for shift := 56; shift >= 0; shift -= 8 {
			b = append(b, byte(limb>>shift))
		}
	}
	return new(big.Int).SetBytes(b)
}

// limbsOf: the limbs of a number of the library's.
func limbsOf(n *big.Int) api.Nat {
	var out api.Nat
	mask := new(big.Int).SetUint64(top)
	for left := new(big.Int).Set(n); left.Sign() > 0; left.Rsh(left, 64) {
		out = append(out, new(big.Int).And(left, mask).Uint64())
	}
	return out
}

// less: a number without another, smaller one.
func less(a, b api.Nat) api.Nat {
	out, ok := nat.Sub(a, b)
	if !ok {
		panic("less than nothing")
	}
	return out
}

// padded: the number with limbs of 0 above the greatest one.
func padded(a api.Nat) api.Nat { return append(slices.Clone(a), 0, 0) }

// paddedPoint: padded, for both numbers.
func paddedPoint(p api.Point) api.Point {
	return api.Point{X: padded(p.X), Y: padded(p.Y), Inf: p.Inf}
}

// paddedCurve: padded, for all numbers that are reckoned with.
func paddedCurve(c api.Curve) api.Curve {
	for _, n := range []*api.Nat{&c.P, &c.A, &c.B, &c.Gx, &c.Gy, &c.N} {
		*n = padded(*n)
	}
	return c
}

// verifies: the signature is judged so, with limbs of 0 on top of all numbers as well.
func verifies(t *testing.T, what string, c api.Curve, q api.Point, hash []byte, r, s api.Nat, want bool) {
	t.Helper()
	if got := ecdsa.Verify(c, q, hash, r, s); got != want {
		t.Errorf("Verify of %s: %v (q %v, hash %x, r %x, s %x)", what, got, q, hash, r, s)
	}
	if got := ecdsa.Verify(paddedCurve(c), paddedPoint(q), hash, padded(r), padded(s)); got != want {
		t.Errorf("Verify of %s, padded: %v (q %v, hash %x, r %x, s %x)", what, got, q, hash, r, s)
	}
}

// plain: a small curve in plain numbers, reckoned by the chapters' words alone.
type plain struct{ p, a, b, gx, gy, n int }

// spot: a point of it.
type spot struct {
	x, y int
	inf  bool
}

// The curves that all small signatures are judged on.
var (
	greatN     = plain{17, 2, 2, 5, 1, 19}    // N above P, both primes
	smallN     = plain{31, 3, 5, 1, 3, 19}    // N below P, both primes; some points have an X of N, or more
	compositeN = plain{23, 1, 1, 3, 10, 28}   // some s have no inverse
	compositeP = plain{25, 2, 1, 0, 1, 35}    // some multiples of G, some of q, some sums can't be told
	both       = plain{15, 6, 1, 0, 1, 9}     // the same, with other divisors
	tiny       = plain{5, 1, 0, 0, 0, 2}      // N 2: only 1 is from 1 up to below it
	example    = plain{251, 1, 4, 7, 75, 271} // the chapter's
)

// curve: the same as the program takes it.
func (c plain) curve() api.Curve {
	return api.Curve{P: nat.Of(uint64(c.p)), A: nat.Of(uint64(c.a)), B: nat.Of(uint64(c.b)), Gx: nat.Of(uint64(c.gx)), Gy: nat.Of(uint64(c.gy)), N: nat.Of(uint64(c.n))}
}

// point: the same as the program takes it.
func (s spot) point() api.Point {
	return api.Point{X: nat.Of(uint64(s.x)), Y: nat.Of(uint64(s.y)), Inf: s.inf}
}

// mod: the number from 0 up to below m.
func mod(a, m int) int { return (a%m + m) % m }

// inverse: by trying all numbers; false: there is none.
func inverse(a, m int) (int, bool) {
	for i := range m {
		if mod(a*i, m) == 1%m {
			return i, true
		}
	}
	return 0, false
}

// on: whether numbers below P are a point of the curve.
func (c plain) on(x, y int) bool { return mod(y*y-x*x*x-c.a*x-c.b, c.p) == 0 }

// spots: all its points but nothing.
func (c plain) spots() []spot {
	var out []spot
	for x := range c.p {
		for y := range c.p {
			if c.on(x, y) {
				out = append(out, spot{x: x, y: y})
			}
		}
	}
	return out
}

// base: G.
func (c plain) base() spot { return spot{x: c.gx, y: c.gy} }

// add: chapter 7's sum; false: it can't be told.
func (c plain) add(p, q spot) (spot, bool) {
	if p.inf {
		return q, true
	}
	if q.inf {
		return p, true
	}
	rise, run := q.y-p.y, q.x-p.x
	if p.x == q.x {
		rise, run = 3*p.x*p.x+c.a, p.y+q.y
		if mod(run, c.p) == 0 {
			return spot{inf: true}, true
		}
	}
	i, ok := inverse(mod(run, c.p), c.p)
	if !ok {
		return spot{}, false
	}
	s := mod(rise*i, c.p)
	x := mod(s*s-p.x-q.x, c.p)
	return spot{x: x, y: mod(s*(p.x-x)-p.y, c.p)}, true
}

// mul: chapter 7's multiple; false: it can't be told.
func (c plain) mul(k int, p spot) (spot, bool) {
	sum, ok := spot{inf: true}, true
	for place := 30; place >= 0; place-- {
		if k>>place == 0 {
			continue
		}
		if sum, ok = c.add(sum, sum); !ok {
			return spot{}, false
		}
		if k>>place&1 == 0 {
			continue
		}
		if sum, ok = c.add(sum, p); !ok {
			return spot{}, false
		}
	}
	return sum, true
}

// outcome: where a signature's judging ended.
type outcome int

const (
	outOfRange outcome = iota
	noInverse
	firstUntold
	secondUntold
	sumUntold
	isNothing
	otherX
	greatX // right, by an X of N or more
	right
	outcomes
)

// holds: whether it ended well.
func (o outcome) holds() bool { return o == greatX || o == right }

// judge: P8.2 in plain numbers, of a key that is a point of the curve, and a digest.
func (c plain) judge(q spot, digest, r, s int) outcome {
	if r < 1 || r >= c.n || s < 1 || s >= c.n {
		return outOfRange
	}
	w, ok := inverse(s, c.n)
	if !ok {
		return noInverse
	}
	first, ok := c.mul(digest*w%c.n, c.base())
	if !ok {
		return firstUntold
	}
	second, ok := c.mul(r*w%c.n, q)
	if !ok {
		return secondUntold
	}
	sum, ok := c.add(first, second)
	switch {
	case !ok:
		return sumUntold
	case sum.inf:
		return isNothing
	case sum.x%c.n != r:
		return otherX
	case sum.x >= c.n:
		return greatX
	}
	return right
}

// sign: a signature of a digest by a secret with a draw; false: this draw gives none.
func (c plain) sign(secret, draw, digest int) (r, s int, ok bool) {
	k, told := c.mul(draw, c.base())
	i, has := inverse(draw, c.n)
	if !told || !has || k.inf {
		return 0, 0, false
	}
	r = k.x % c.n
	s = (digest + r*secret) * i % c.n
	return r, s, r > 0 && s > 0
}

func TestTheSmallCurvesAreCurves(t *testing.T) {
	for _, c := range []plain{greatN, smallN, compositeN, compositeP, both, tiny, example} {
		if curve.Check(c.curve()) != api.OK {
			t.Errorf("%v is no curve", c)
		}
	}
}
