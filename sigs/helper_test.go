package sigs_test

import (
	"bytes"
	"crypto/sha256"
	"encoding/hex"
	"math/big"
	"math/rand"
	"runtime/debug"
	"slices"
	"strings"
	"sync"
	"testing"

	"latchkey/api"
	"latchkey/curve"
	"latchkey/rsa"
	"latchkey/sigs"
)

// unhex: bytes that are written in base sixteen, with blanks between them.
func unhex(s string) []byte {
	b, err := hex.DecodeString(strings.ReplaceAll(s, " ", ""))
	if err != nil {
		panic(err)
	}
	return b
}

func hexInt(s string) *big.Int { return new(big.Int).SetBytes(unhex(s)) }

// plus: a number and a small one, which may be below 0.
func plus(a *big.Int, b int64) *big.Int { return new(big.Int).Add(a, big.NewInt(b)) }

// twoTo: 2, so many times multiplied.
func twoTo(times uint) *big.Int { return new(big.Int).Lsh(big.NewInt(1), times) }

// valueOf: the number by the library's reckoning, which the tests hold the answers against.
func valueOf(a api.Nat) *big.Int {
	out := new(big.Int)
	for _, limb := range slices.Backward(a) {
		out.Or(out.Lsh(out, 64), new(big.Int).SetUint64(limb))
	}
	return out
}

// limbsOf: the limbs of a number of the library's.
func limbsOf(n *big.Int) api.Nat {
	var out api.Nat
	mask := new(big.Int).SetUint64(1<<64 - 1)
	for left := new(big.Int).Set(n); left.Sign() > 0; left.Rsh(left, 64) {
		out = append(out, new(big.Int).And(left, mask).Uint64())
	}
	return out
}

// padded: the number with limbs of 0 above the greatest one.
func padded(a api.Nat) api.Nat { return append(slices.Clone(a), 0, 0) }

// paddedCurves: padded, for all numbers of all curves.
func paddedCurves(curves []api.Curve) []api.Curve {
	out := slices.Clone(curves)
	for at := range out {
		c := &out[at]
		for _, n := range []*api.Nat{&c.P, &c.A, &c.B, &c.Gx, &c.Gy, &c.N} {
			*n = padded(*n)
		}
	}
	return out
}

// paddedKey: padded, for all numbers of a key.
func paddedKey(k api.Key) api.Key {
	for _, n := range []*api.Nat{&k.Point.X, &k.Point.Y, &k.Rsa.N, &k.Rsa.E} {
		*n = padded(*n)
	}
	return k
}

// piece: the bytes of a piece of DER, as chapter 10 writes it.
func piece(tag byte, body ...byte) []byte {
	size := len(body)
	length := []byte{byte(size)}
	switch {
	case size > 255:
		length = []byte{0x82, byte(size / 256), byte(size % 256)}
	case size > 127:
		length = []byte{0x81, byte(size)}
	}
	return slices.Concat([]byte{tag}, length, body)
}

// seq: a sequence of pieces.
func seq(pieces ...[]byte) []byte { return piece(0x30, slices.Concat(pieces...)...) }

// integer: the piece of a number: as few bytes as may be, the first one below 80.
func integer(n *big.Int) []byte {
	b := n.Bytes()
	if len(b) == 0 || b[0] >= 0x80 {
		b = append([]byte{0}, b...)
	}
	return piece(2, b...)
}

// formOf: a signature by points, of two numbers.
func formOf(r, s *big.Int) []byte { return seq(integer(r), integer(s)) }

// small: the chapter's curve.
func small() api.Curve {
	return api.Curve{Alg: -7, Crv: 1, Oid: []uint64{1, 3, 132, 0}, P: api.Nat{251}, A: api.Nat{1}, B: api.Nat{4}, Gx: api.Nat{7}, Gy: api.Nat{75}, N: api.Nat{271}}
}

// least: a curve of so few points that all signatures can be tried; N is a prime above P.
func least() api.Curve {
	return api.Curve{Alg: -35, Crv: 2, Oid: []uint64{1, 3, 132, 1}, P: api.Nat{17}, A: api.Nat{2}, B: api.Nat{2}, Gx: api.Nat{5}, Gy: api.Nat{1}, N: api.Nat{19}}
}

// p256: the curve that NIST names P-256 (FIPS 186-4, D.1.2.3), with the numbers by which it is named.
func p256() api.Curve {
	return api.Curve{
		Alg: -7, Crv: 1, Oid: []uint64{1, 2, 840, 10045, 3, 1, 7},
		P:  limbsOf(hexInt("ffffffff00000001000000000000000000000000ffffffffffffffffffffffff")),
		A:  limbsOf(hexInt("ffffffff00000001000000000000000000000000fffffffffffffffffffffffc")),
		B:  limbsOf(hexInt("5ac635d8aa3a93e7b3ebbd55769886bc651d06b0cc53b0f63bce3c3e27d2604b")),
		Gx: limbsOf(hexInt("6b17d1f2e12c4247f8bce6e563a440f277037d812deb33a0f4a13945d898c296")),
		Gy: limbsOf(hexInt("4fe342e2fe1a7f9b8ee7eb4a7c0f9e162bce33576b315ececbb6406837bf51f5")),
		N:  limbsOf(hexInt("ffffffff00000000ffffffffffffffffbce6faada7179e84f3b9cac2fc632551")),
	}
}

// three: curves in whose places keys stand.
func three() []api.Curve { return []api.Curve{least(), small(), p256()} }

// The curves of these tests are such as may be handed in (R9).
func TestCurvesAreRight(t *testing.T) {
	for _, c := range three() {
		if err := curve.Check(c); err != api.OK {
			t.Errorf("Check(%v): %d", c, err)
		}
	}
}

// spot: a point in the library's numbers; nil is nothing.
type spot struct{ x, y *big.Int }

// field: a curve modulo a prime, in the library's numbers.
type field struct {
	p, a, n *big.Int
	g       *spot
}

func fieldOf(c api.Curve) field {
	return field{valueOf(c.P), valueOf(c.A), valueOf(c.N), &spot{valueOf(c.Gx), valueOf(c.Gy)}}
}

// quotient: modulo P, which is a prime.
func (f field) quotient(a, b *big.Int) *big.Int {
	b = new(big.Int).Mod(b, f.p)
	out := new(big.Int).Mul(a, b.ModInverse(b, f.p))
	return out.Mod(out, f.p)
}

// add: the sum of two points.
func (f field) add(p, q *spot) *spot {
	if p == nil {
		return q
	}
	if q == nil {
		return p
	}
	rise, run := new(big.Int).Sub(q.y, p.y), new(big.Int).Sub(q.x, p.x)
	if run.Sign() == 0 {
		if rise.Sign() != 0 || p.y.Sign() == 0 {
			return nil
		}
		rise.Mul(p.x, p.x)
		rise.Add(rise.Mul(rise, big.NewInt(3)), f.a)
		run.Lsh(p.y, 1)
	}
	slope := f.quotient(rise, run)
	x := new(big.Int).Mul(slope, slope)
	x.Sub(x.Sub(x, p.x), q.x).Mod(x, f.p)
	y := new(big.Int).Sub(p.x, x)
	y.Sub(y.Mul(y, slope), p.y)
	return &spot{x, y.Mod(y, f.p)}
}

// mul: a point's multiple.
func (f field) mul(k *big.Int, p *spot) *spot {
	var out *spot
	for place := k.BitLen() - 1; place >= 0; place-- {
		out = f.add(out, out)
		if k.Bit(place) == 1 {
			out = f.add(out, p)
		}
	}
	return out
}

// digest: the first bits of the message's hash by the library, as many as N has.
func (f field) digest(msg []byte) *big.Int {
	sum := sha256.Sum256(msg)
	out := new(big.Int).SetBytes(sum[:])
	return out.Rsh(out, uint(256-f.n.BitLen()))
}

// holds: whether r and s are a signature of the message, by a key that is a point of the curve.
func (f field) holds(q *spot, msg []byte, r, s *big.Int) bool {
	if r.Sign() <= 0 || s.Sign() <= 0 || r.Cmp(f.n) >= 0 || s.Cmp(f.n) >= 0 {
		return false
	}
	w := new(big.Int).ModInverse(s, f.n)
	u, v := w.Mul(w, f.digest(msg)), new(big.Int).ModInverse(s, f.n)
	v.Mul(v, r)
	sum := f.add(f.mul(u.Mod(u, f.n), f.g), f.mul(v.Mod(v, f.n), q))
	return sum != nil && new(big.Int).Mod(sum.x, f.n).Cmp(r) == 0
}

// signer: who signs by points: the curve of that place of three, and a secret.
type signer struct {
	place  int
	secret *big.Int
}

func (s signer) field() field { return fieldOf(three()[s.place]) }

// spot: the point that is handed out.
func (s signer) spot() *spot { return s.field().mul(s.secret, s.field().g) }

// key: the key that is handed out.
func (s signer) key() api.Key { return pointKey(s.place, s.spot()) }

// pointKey: the key of a point.
func pointKey(place int, p *spot) api.Key {
	return api.Key{Kind: api.KEc, Curve: place, Point: api.Point{X: limbsOf(p.x), Y: limbsOf(p.y)}}
}

// numbers: a right r and s of a message, with the first draw from that one on that gives some.
func (s signer) numbers(msg []byte, draw int64) (*big.Int, *big.Int) {
	f := s.field()
	for k := big.NewInt(draw); ; k = plus(k, 1) {
		p, inverse := f.mul(k, f.g), new(big.Int).ModInverse(k, f.n)
		if p == nil || inverse == nil {
			continue
		}
		r := new(big.Int).Mod(p.x, f.n)
		second := new(big.Int).Mul(r, s.secret)
		second.Mul(second.Add(second, f.digest(msg)), inverse).Mod(second, f.n)
		if r.Sign() > 0 && second.Sign() > 0 {
			return r, second
		}
	}
}

// sign: the same as a signature.
func (s signer) sign(msg []byte) []byte { return formOf(s.numbers(msg, 5)) }

// The signers of the chapter's curve, of the least one and of P-256.
func onSmall() signer { return signer{1, big.NewInt(5)} }
func onLeast() signer { return signer{0, big.NewInt(3)} }
func onP256() signer {
	return signer{2, hexInt("c9afa9d845ba75166b5c215767b1d6934e50c3db36e89b127b8a622b120f6721")}
}

// signers: all three.
func signers() []signer { return []signer{onLeast(), onSmall(), onP256()} }

// secret: who signs by powers: a modulus, an exponent, and how many numbers below N share no divisor with it.
type secret struct{ n, e, phi *big.Int }

// public: the half that is handed out.
func (s secret) public() api.RsaKey { return api.RsaKey{N: limbsOf(s.n), E: limbsOf(s.e)} }

func (s secret) key() api.Key { return api.Key{Kind: api.KRsa, Rsa: s.public()} }

// sign: a right signature of a message.
func (s secret) sign(msg []byte) []byte { return s.signHash(sha256.Sum256(msg)) }

// signHash: a right signature of a hash.
func (s secret) signHash(hash [32]byte) []byte {
	size := len(s.n.Bytes())
	pad := slices.Concat([]byte{0, 1}, bytes.Repeat([]byte{0xff}, size-54), []byte{0}, unhex("3031300d060960864801650304020105000420"), hash[:])
	d := new(big.Int).ModInverse(s.e, s.phi)
	return new(big.Int).Exp(new(big.Int).SetBytes(pad), d, s.n).FillBytes(make([]byte, size))
}

// low: the least modulus that is a prime, of 62 bytes, with E 3.
var low = sync.OnceValue(func() secret {
	for n := plus(twoTo(488), 1); ; n = plus(n, 2) {
		phi := plus(n, -1)
		if n.ProbablyPrime(0) && new(big.Int).ModInverse(big.NewInt(3), phi) != nil {
			return secret{n, big.NewInt(3), phi}
		}
	}
})

// great: a modulus of 256 bytes, the product of two primes that are drawn with a seed.
var great = sync.OnceValue(func() secret {
	draw := rand.New(rand.NewSource(1))
	prime := func() *big.Int {
		for {
			n := new(big.Int).Rand(draw, twoTo(1024))
			n.SetBit(n, 1023, 1).SetBit(n, 1022, 1).SetBit(n, 0, 1)
			if n.ProbablyPrime(0) && new(big.Int).ModInverse(big.NewInt(65537), plus(n, -1)) != nil {
				return n
			}
		}
	}
	p, q := prime(), prime()
	return secret{new(big.Int).Mul(p, q), big.NewInt(65537), new(big.Int).Mul(plus(p, -1), plus(q, -1))}
})

// The moduli of these tests are such as may be handed in.
func TestModuliAreRight(t *testing.T) {
	for _, s := range []secret{low(), great()} {
		if err := rsa.Check(s.public()); err != api.OK {
			t.Errorf("Check(%x): %d", s.n, err)
		}
	}
}

// author: who signs, by points or by powers.
type author interface {
	key() api.Key
	sign(msg []byte) []byte
}

// authors: one of each key.
func authors() []author {
	out := []author{low(), great()}
	for _, s := range signers() {
		out = append(out, s)
	}
	return out
}

// messages: of no bytes, of some hundred, and of sizes at which the hash's blocks end.
func messages() [][]byte {
	out := [][]byte{nil, {}}
	for _, size := range []int{1, 2, 31, 32, 55, 56, 63, 64, 65, 119, 120, 128, 333, 700} {
		msg := make([]byte, size)
		for at := range msg {
			msg[at] = byte(7*at + size)
		}
		out = append(out, msg)
	}
	return out
}

// verifies: the signature is judged so, with limbs of 0 on top of all numbers as well.
func verifies(t *testing.T, what string, curves []api.Curve, k api.Key, msg, sig []byte, want api.Errno) {
	t.Helper()
	if got := sigs.Verify(curves, k, msg, sig); got != want {
		t.Errorf("Verify of %s: %d, not %d (key %v, message %.40x, sig %x)", what, got, want, k, msg, sig)
	}
	if got := sigs.Verify(paddedCurves(curves), paddedKey(k), msg, sig); got != want {
		t.Errorf("Verify of %s, padded: %d, not %d (key %v, message %.40x, sig %x)", what, got, want, k, msg, sig)
	}
}

// atOnce: does all of it on several goroutines, as signatures on P-256 take their time; most of it goes to garbage, unless that may pile up.
func atOnce(count int, do func(at int)) {
	defer debug.SetGCPercent(debug.SetGCPercent(1000))
	const workers = 8
	var group sync.WaitGroup
	for worker := range workers {
		group.Go(func() {
			for at := worker; at < count; at += workers {
				do(at)
			}
		})
	}
	group.Wait()
}
