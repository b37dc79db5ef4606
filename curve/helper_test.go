package curve_test

import (
	"math"
	"math/big"
	"math/rand"
	"slices"
	"testing"

	"latchkey/api"
	"latchkey/curve"
)

const top = uint64(math.MaxUint64)

// nothing: the point that is none.
var nothing = api.Point{Inf: true}

// at: the point of two small numbers.
func at(x, y uint64) api.Point { return api.Point{X: api.Nat{x}, Y: api.Nat{y}} }

// small: the chapter's curve.
func small() api.Curve {
	return api.Curve{Alg: -7, Crv: 1, Oid: []uint64{1, 3, 132, 0}, P: api.Nat{251}, A: api.Nat{1}, B: api.Nat{4}, Gx: api.Nat{7}, Gy: api.Nat{75}, N: api.Nat{271}}
}

// over: a curve with just a P and an A, which are all that sums hang on.
func over(p, a uint64) api.Curve { return api.Curve{P: api.Nat{p}, A: api.Nat{a}} }

// flat: a curve modulo p whose point (0, 0) is its own opposite, so that it comes back at each even number, whatever p is.
func flat(p, n api.Nat) api.Curve { return api.Curve{P: p, A: api.Nat{1}, N: n} }

// hexNat: the limbs of a number that is written in base sixteen.
func hexNat(text string) api.Nat {
	n, ok := new(big.Int).SetString(text, 16)
	if !ok {
		panic(text)
	}
	return limbsOf(n)
}

// p256: the curve that NIST names P-256 (FIPS 186-4, D.1.2.3).
func p256() api.Curve {
	return api.Curve{
		P:  hexNat("ffffffff00000001000000000000000000000000ffffffffffffffffffffffff"),
		A:  hexNat("ffffffff00000001000000000000000000000000fffffffffffffffffffffffc"),
		B:  hexNat("5ac635d8aa3a93e7b3ebbd55769886bc651d06b0cc53b0f63bce3c3e27d2604b"),
		Gx: hexNat("6b17d1f2e12c4247f8bce6e563a440f277037d812deb33a0f4a13945d898c296"),
		Gy: hexNat("4fe342e2fe1a7f9b8ee7eb4a7c0f9e162bce33576b315ececbb6406837bf51f5"),
		N:  hexNat("ffffffff00000000ffffffffffffffffbce6faada7179e84f3b9cac2fc632551"),
	}
}

// k256: the curve secp256k1, whose A is 0 (SEC 2, 2.4.1).
func k256() api.Curve {
	return api.Curve{
		P:  hexNat("fffffffffffffffffffffffffffffffffffffffffffffffffffffffefffffc2f"),
		B:  api.Nat{7},
		Gx: hexNat("79be667ef9dcbbac55a06295ce870b07029bfcdb2dce28d959f2815b16f81798"),
		Gy: hexNat("483ada7726a3c4655da4fbfc0e1108a8fd17b448a68554199c47d08ffb10d4b8"),
		N:  hexNat("fffffffffffffffffffffffffffffffebaaedce6af48a03bbfd25e8cd0364141"),
	}
}

// value: the number by the library's reckoning, which the tests hold the answers against.
func value(a api.Nat) *big.Int {
	b := make([]byte, 0, 8*len(a))
	for i := range a {
		limb := a[len(a)-1-i]
		for shift := 56; shift >= 0; shift -= 8 {
			b = append(b, byte(limb>>shift))
		}
	}
	return new(big.Int).SetBytes(b)
}

// limbsOf: the limbs of a number of the library's.
func limbsOf(n *big.Int) api.Nat {
	var out api.Nat
	mask := new(big.Int).SetUint64(top)
	for left := new(big.Int).Set(n); left.Sign() > 0; left.Rsh(left, 64) {
		out = append(out, new(big.Int).And(left, mask).Uint64())
	}
	return out
}

// padded: the number with limbs of 0 above the greatest one.
func padded(a api.Nat) api.Nat { return append(slices.Clone(a), 0, 0) }

// paddedPoint: padded, for both numbers.
func paddedPoint(p api.Point) api.Point {
	return api.Point{X: padded(p.X), Y: padded(p.Y), Inf: p.Inf}
}

// paddedCurve: padded, for all numbers that are reckoned with.
func paddedCurve(c api.Curve) api.Curve {
	for _, n := range []*api.Nat{&c.P, &c.A, &c.B, &c.Gx, &c.Gy, &c.N} {
		*n = padded(*n)
	}
	return c
}

// random: a number of up to so many limbs, drawn with a seed so that each run is the same; about half of the limbs stand at an edge.
func random(r *rand.Rand, limbs int) api.Nat {
	a := make(api.Nat, r.Intn(limbs+1))
	for i := range a {
		switch r.Intn(8) {
		case 0:
			a[i] = 0
		case 1:
			a[i] = top
		case 2:
			a[i] = 1 << 63
		case 3:
			a[i] = r.Uint64() >> r.Intn(64)
		default:
			a[i] = r.Uint64()
		}
	}
	return a
}

// normed: the answer's number has no limb of 0 above the greatest one.
func normed(a api.Nat) bool { return len(a) == 0 || a[len(a)-1] != 0 }

// like: whether an answered point is just that one: nothing without numbers, or these numbers without limbs of 0 on top.
func like(got, want api.Point) bool {
	if want.Inf {
		return got.Inf && len(got.X) == 0 && len(got.Y) == 0
	}
	return !got.Inf && normed(got.X) && normed(got.Y) && value(got.X).Cmp(value(want.X)) == 0 && value(got.Y).Cmp(value(want.Y)) == 0
}

// told: the answer is just that point.
func told(t *testing.T, what string, got api.Point, ok bool, want api.Point, args ...any) {
	t.Helper()
	if !ok || !like(got, want) {
		t.Fatalf("%s %v: %v %v, not %v", what, args, got, ok, want)
	}
}

// untold: the answer is that it can't be told, and no point stands beside it.
func untold(t *testing.T, what string, got api.Point, ok bool, args ...any) {
	t.Helper()
	if ok || got.Inf || len(got.X) != 0 || len(got.Y) != 0 {
		t.Fatalf("%s %v: %v %v, but it can't be told", what, args, got, ok)
	}
}

// adds: the sum is just that point, with limbs of 0 on top as well.
func adds(t *testing.T, c api.Curve, p, q, want api.Point) {
	t.Helper()
	got, ok := curve.Add(c, p, q)
	told(t, "Add", got, ok, want, c, p, q)
	got, ok = curve.Add(paddedCurve(c), paddedPoint(p), paddedPoint(q))
	told(t, "Add, padded,", got, ok, want, c, p, q)
}

// addsNone: the sum can't be told.
func addsNone(t *testing.T, c api.Curve, p, q api.Point) {
	t.Helper()
	got, ok := curve.Add(c, p, q)
	untold(t, "Add", got, ok, c, p, q)
	got, ok = curve.Add(paddedCurve(c), paddedPoint(p), paddedPoint(q))
	untold(t, "Add, padded,", got, ok, c, p, q)
}

// judge: a sum by the chapter's words in the library's reckoning; nil: it can't be told.
func judge(c api.Curve, p, q api.Point) *api.Point {
	m := value(c.P)
	switch {
	case m.Sign() == 0:
		return nil
	case p.Inf && q.Inf:
		return &api.Point{Inf: true}
	case p.Inf:
		return &q
	case q.Inf:
		return &p
	}
	mod := func(n *big.Int) *big.Int { return n.Mod(n, m) }
	px, py, qx, qy := mod(value(p.X)), mod(value(p.Y)), mod(value(q.X)), mod(value(q.Y))
	over, under := new(big.Int).Sub(qy, py), new(big.Int).Sub(qx, px)
	if px.Cmp(qx) == 0 {
		if under = mod(new(big.Int).Add(py, qy)); under.Sign() == 0 {
			return &api.Point{Inf: true}
		}
		over.Mul(px, px)
		over.Add(over.Mul(over, big.NewInt(3)), value(c.A))
	}
	inverse := new(big.Int).ModInverse(mod(under), m)
	if inverse == nil {
		return nil
	}
	s := mod(new(big.Int).Mul(over, inverse))
	x := new(big.Int).Mul(s, s)
	x = mod(x.Sub(x.Sub(x, px), qx))
	y := new(big.Int).Sub(px, x)
	y = mod(y.Sub(y.Mul(y, s), py))
	return &api.Point{X: limbsOf(x), Y: limbsOf(y)}
}

// judgeMul: a multiple by the chapter's words, bit by bit of the library's number; nil: it can't be told.
func judgeMul(c api.Curve, k api.Nat, p api.Point) *api.Point {
	if value(c.P).Sign() == 0 {
		return nil
	}
	n, out := value(k), &api.Point{Inf: true}
	for place := n.BitLen() - 1; place >= 0; place-- {
		if out = judge(c, *out, *out); out == nil {
			return nil
		}
		if n.Bit(place) == 0 {
			continue
		}
		if out = judge(c, *out, p); out == nil {
			return nil
		}
	}
	return out
}

// judged: the sum is answered as the judge says.
func judged(t *testing.T, c api.Curve, p, q api.Point) {
	t.Helper()
	got, ok := curve.Add(c, p, q)
	if want := judge(c, p, q); want != nil {
		told(t, "Add", got, ok, *want, c, p, q)
		return
	}
	untold(t, "Add", got, ok, c, p, q)
}

// judgedMul: the multiple is answered as the judge says.
func judgedMul(t *testing.T, c api.Curve, k api.Nat, p api.Point) {
	t.Helper()
	got, ok := curve.Mul(c, k, p)
	if want := judgeMul(c, k, p); want != nil {
		told(t, "Mul", got, ok, *want, c, k, p)
		return
	}
	untold(t, "Mul", got, ok, c, k, p)
}
