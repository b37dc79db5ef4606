package chain_test

import (
	"bytes"
	"crypto/sha256"
	"encoding/hex"
	"math/big"
	"runtime/debug"
	"slices"
	"strings"
	"sync"
	"testing"

	"latchkey/api"
	"latchkey/curve"
	"latchkey/rsa"
)

// Signatures make numbers that are dropped at once: they may pile up, as there are few others.
func TestMain(m *testing.M) {
	debug.SetGCPercent(2000)
	m.Run()
}

// unhex: bytes that are written in base sixteen, with blanks between them.
func unhex(s string) []byte {
	b, err := hex.DecodeString(strings.ReplaceAll(s, " ", ""))
	if err != nil {
		panic(err)
	}
	return b
}

func hexInt(s string) *big.Int { return new(big.Int).SetBytes(unhex(s)) }

// plus: a number and a small one, which may be below 0.
func plus(a *big.Int, b int64) *big.Int { return new(big.Int).Add(a, big.NewInt(b)) }

// valueOf: the number by the library's reckoning.
func valueOf(a api.Nat) *big.Int {
	out := new(big.Int)
	for _, limb := range slices.Backward(a) {
		out.Or(out.Lsh(out, 64), new(big.Int).SetUint64(limb))
	}
	return out
}

// limbsOf: the limbs of a number of the library's.
func limbsOf(n *big.Int) api.Nat {
	var out api.Nat
	mask := new(big.Int).SetUint64(1<<64 - 1)
	for left := new(big.Int).Set(n); left.Sign() > 0; left.Rsh(left, 64) {
		out = append(out, new(big.Int).And(left, mask).Uint64())
	}
	return out
}

// small: the chapters' curve.
func small() api.Curve {
	return api.Curve{Alg: -7, Crv: 1, Oid: []uint64{1, 3, 132, 0}, P: api.Nat{251}, A: api.Nat{1}, B: api.Nat{4}, Gx: api.Nat{7}, Gy: api.Nat{75}, N: api.Nat{271}}
}

// middle: a curve of so many points (a prime) that no signature is right by chance, and of so few that signatures take little time.
func middle() api.Curve {
	return api.Curve{
		Alg: -36, Crv: 3, Oid: []uint64{1, 3, 132, 2},
		P: api.Nat{1099511627563}, A: api.Nat{1099511627560}, B: api.Nat{56},
		Gx: api.Nat{1}, Gy: api.Nat{15267301451}, N: api.Nat{1099512551701},
	}
}

// p256: the curve that NIST names P-256 (FIPS 186-4, D.1.2.3).
func p256() api.Curve {
	return api.Curve{
		Alg: -7, Crv: 1, Oid: []uint64{1, 2, 840, 10045, 3, 1, 7},
		P:  limbsOf(hexInt("ffffffff00000001000000000000000000000000ffffffffffffffffffffffff")),
		A:  limbsOf(hexInt("ffffffff00000001000000000000000000000000fffffffffffffffffffffffc")),
		B:  limbsOf(hexInt("5ac635d8aa3a93e7b3ebbd55769886bc651d06b0cc53b0f63bce3c3e27d2604b")),
		Gx: limbsOf(hexInt("6b17d1f2e12c4247f8bce6e563a440f277037d812deb33a0f4a13945d898c296")),
		Gy: limbsOf(hexInt("4fe342e2fe1a7f9b8ee7eb4a7c0f9e162bce33576b315ececbb6406837bf51f5")),
		N:  limbsOf(hexInt("ffffffff00000000ffffffffffffffffbce6faada7179e84f3b9cac2fc632551")),
	}
}

// three: curves in whose places keys stand.
func three() []api.Curve { return []api.Curve{small(), middle(), p256()} }

// The curves of these tests are such as may be handed in (R9).
func TestCurvesAreRight(t *testing.T) {
	for _, c := range three() {
		if err := curve.Check(c); err != api.OK {
			t.Errorf("Check(%v): %d", c, err)
		}
	}
}

// piece: the bytes of a piece of DER, as chapter 10 writes it.
func piece(tag byte, body ...byte) []byte {
	size := len(body)
	length := []byte{byte(size)}
	switch {
	case size > 255:
		length = []byte{0x82, byte(size / 256), byte(size % 256)}
	case size > 127:
		length = []byte{0x81, byte(size)}
	}
	return slices.Concat([]byte{tag}, length, body)
}

// group: a piece of pieces.
func group(tag byte, pieces ...[]byte) []byte { return piece(tag, slices.Concat(pieces...)...) }

// seq: a sequence of pieces.
func seq(pieces ...[]byte) []byte { return group(0x30, pieces...) }

// integer: the piece of a number: as few bytes as may be, the first one below 80.
func integer(n *big.Int) []byte {
	b := n.Bytes()
	if len(b) == 0 || b[0] >= 0x80 {
		b = append([]byte{0}, b...)
	}
	return piece(2, b...)
}

// oidOf: the piece of an OID.
func oidOf(numbers ...uint64) []byte {
	row := func(n uint64) []byte {
		out := []byte{byte(n % 128)}
		for n /= 128; n > 0; n /= 128 {
			out = slices.Concat([]byte{byte(128 + n%128)}, out)
		}
		return out
	}
	body := row(40*numbers[0] + numbers[1])
	for _, n := range numbers[2:] {
		body = append(body, row(n)...)
	}
	return piece(6, body...)
}

// author: who has a key and signs by it.
type author interface {
	// key: as chapter 11 has it; info: as a certificate's piece.
	key() api.Key
	info() []byte
	sign(msg []byte) []byte
	byPowers() bool
}

// spot: a point in the library's numbers; nil is nothing.
type spot struct{ x, y *big.Int }

// field: a curve modulo a prime, in the library's numbers.
type field struct {
	p, a, n *big.Int
	g       *spot
}

func fieldOf(c api.Curve) field {
	return field{valueOf(c.P), valueOf(c.A), valueOf(c.N), &spot{valueOf(c.Gx), valueOf(c.Gy)}}
}

// quotient: modulo P, which is a prime.
func (f field) quotient(a, b *big.Int) *big.Int {
	b = new(big.Int).Mod(b, f.p)
	out := new(big.Int).Mul(a, b.ModInverse(b, f.p))
	return out.Mod(out, f.p)
}

// add: the sum of two points.
func (f field) add(p, q *spot) *spot {
	if p == nil {
		return q
	}
	if q == nil {
		return p
	}
	rise, run := new(big.Int).Sub(q.y, p.y), new(big.Int).Sub(q.x, p.x)
	if run.Sign() == 0 {
		if rise.Sign() != 0 || p.y.Sign() == 0 {
			return nil
		}
		rise.Mul(p.x, p.x)
		rise.Add(rise.Mul(rise, big.NewInt(3)), f.a)
		run.Lsh(p.y, 1)
	}
	slope := f.quotient(rise, run)
	x := new(big.Int).Mul(slope, slope)
	x.Sub(x.Sub(x, p.x), q.x).Mod(x, f.p)
	y := new(big.Int).Sub(p.x, x)
	y.Sub(y.Mul(y, slope), p.y)
	return &spot{x, y.Mod(y, f.p)}
}

// mul: a point's multiple.
func (f field) mul(k *big.Int, p *spot) *spot {
	var out *spot
	for place := k.BitLen() - 1; place >= 0; place-- {
		out = f.add(out, out)
		if k.Bit(place) == 1 {
			out = f.add(out, p)
		}
	}
	return out
}

// digest: the first bits of the message's hash by the library, as many as N has.
func (f field) digest(msg []byte) *big.Int {
	sum := sha256.Sum256(msg)
	out := new(big.Int).SetBytes(sum[:])
	return out.Rsh(out, uint(256-f.n.BitLen()))
}

// pointed: who signs by points: the curve of that place of three, and a secret.
type pointed struct {
	place  int
	secret int64
}

func (p pointed) byPowers() bool { return false }

func (p pointed) spot() *spot {
	f := fieldOf(three()[p.place])
	return f.mul(big.NewInt(p.secret), f.g)
}

func (p pointed) key() api.Key {
	at := p.spot()
	return api.Key{Kind: api.KEc, Curve: p.place, Point: api.Point{X: limbsOf(at.x), Y: limbsOf(at.y)}}
}

func (p pointed) info() []byte {
	c, at := three()[p.place], p.spot()
	size := len(valueOf(c.P).Bytes())
	row := make([]byte, 2+2*size)
	row[1] = 4
	at.x.FillBytes(row[2 : 2+size])
	at.y.FillBytes(row[2+size:])
	return seq(seq(oidOf(1, 2, 840, 10045, 2, 1), oidOf(c.Oid...)), piece(3, row...))
}

// sign: a right signature, with the first draw from 5 on that gives one.
func (p pointed) sign(msg []byte) []byte {
	f := fieldOf(three()[p.place])
	for k := big.NewInt(5); ; k = plus(k, 1) {
		at, inverse := f.mul(k, f.g), new(big.Int).ModInverse(k, f.n)
		if at == nil || inverse == nil {
			continue
		}
		r := new(big.Int).Mod(at.x, f.n)
		s := new(big.Int).Mul(r, big.NewInt(p.secret))
		s.Mul(s.Add(s, f.digest(msg)), inverse).Mod(s, f.n)
		if r.Sign() > 0 && s.Sign() > 0 {
			return seq(integer(r), integer(s))
		}
	}
}

// powered: who signs by powers: a modulus that is a prime, with an E of 3.
type powered struct{ n *big.Int }

func (p powered) byPowers() bool { return true }

func (p powered) key() api.Key {
	return api.Key{Kind: api.KRsa, Rsa: api.RsaKey{N: limbsOf(p.n), E: api.Nat{3}}}
}

func (p powered) info() []byte {
	numbers := seq(integer(p.n), integer(big.NewInt(3)))
	return seq(seq(oidOf(1, 2, 840, 113549, 1, 1, 1), piece(5)), group(3, []byte{0}, numbers))
}

func (p powered) sign(msg []byte) []byte {
	size, hash := len(p.n.Bytes()), sha256.Sum256(msg)
	pad := slices.Concat([]byte{0, 1}, bytes.Repeat([]byte{0xff}, size-54), []byte{0}, unhex("3031300d060960864801650304020105000420"), hash[:])
	d := new(big.Int).ModInverse(big.NewInt(3), plus(p.n, -1))
	return new(big.Int).Exp(new(big.Int).SetBytes(pad), d, p.n).FillBytes(make([]byte, size))
}

// moduli: the least primes of 62 bytes that go with an E of 3.
var moduli = sync.OnceValue(func() []*big.Int {
	var out []*big.Int
	for n := plus(new(big.Int).Lsh(big.NewInt(1), 488), 1); len(out) < 7; n = plus(n, 2) {
		if n.ProbablyPrime(0) && new(big.Int).ModInverse(big.NewInt(3), plus(n, -1)) != nil {
			out = append(out, n)
		}
	}
	return out
})

// powers and points: some who sign, by a number that names them.
func powers(at int) author { return powered{moduli()[at]} }
func points(at int) author { return pointed{1, int64(1000003 + at)} }

// The moduli of these tests are such as may be handed in.
func TestModuliAreRight(t *testing.T) {
	for _, n := range moduli() {
		if err := rsa.Check(powered{n}.key().Rsa); err != api.OK {
			t.Errorf("Check(%x): %d", n, err)
		}
	}
}
