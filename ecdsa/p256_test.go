package ecdsa_test

import (
	library "crypto/ecdsa"
	"crypto/elliptic"
	"crypto/sha1"
	"crypto/sha256"
	"crypto/sha512"
	"math/big"
	"math/rand"
	"testing"

	"latchkey/api"
	"latchkey/ecdsa"
)

// rfcKey: the key of RFC 6979, A.2.5.
func rfcKey() api.Point {
	return api.Point{
		X: hexNat("60fed4ba255a9d31c961eb74c6356d68c049b8923b61fa6ce669622e60f29fb6"),
		Y: hexNat("7903fe1008b8bc99a41ae9e95628bc64f2f1b20c2d7e9f5177a3c294d4462299"),
	}
}

// sample: RFC 6979's signature of the SHA-256 of "sample".
func sample() (q api.Point, hash []byte, r, s api.Nat) {
	sum := sha256.Sum256([]byte("sample"))
	return rfcKey(), sum[:],
		hexNat("efd48b2aacb6a8fd1140dd9cd45e81d69d2c877b56aaf991c34d0ea84eaf3716"),
		hexNat("f7cb1c942d657c41d436c7a1b6e29f65f3e900dbb9aff4064dc4ab2f843acda8")
}

// RFC 6979's signatures, of hashes with fewer bits than N, as many and more.
func TestP82TheSignaturesOfRfc6979(t *testing.T) {
	c := p256()
	one, five := sha1.Sum([]byte("sample")), sha512.Sum512([]byte("sample"))
	test := sha256.Sum256([]byte("test"))
	q, hash, r, s := sample()
	verifies(t, "sample, SHA-256", c, q, hash, r, s, true)
	verifies(t, "test with sample's numbers", c, q, test[:], r, s, false)
	verifies(t, "test, SHA-256", c, q, test[:],
		hexNat("f1abb023518351cd71d881567b1ea663ed3efcf6c5132b354f28d3b0b7d38367"),
		hexNat("019f4113742a2b14bd25926b49c649155f267e60d3814b4c0cc84250e46f0083"), true)
	verifies(t, "sample, SHA-1", c, q, one[:],
		hexNat("61340c88c3aaebeb4f6d667f672ca9759a6ccaa9fa8811313039ee4a35471d32"),
		hexNat("6d7f147dac089441bb2e2fe8f7a3fa264b9c475098fdcf6e00d7c996e1b8b7eb"), true)
	verifies(t, "sample, SHA-512", c, q, five[:],
		hexNat("8496a60b5e9b47c825488827e0495b0e3fa109ec4568fd3f8d1097678eb97f00"),
		hexNat("2362ab1adbe2b8adf9cb9edab740ea6049c028114f2460f96554f61fae3302fe"), true)
}

// wide: P-256's numbers as the library has them.
func wide() (elliptic.Curve, *big.Int) { return elliptic.P256(), elliptic.P256().Params().N }

// below: a number from 1 up to below n, drawn with a seed.
func below(r *rand.Rand, n *big.Int) *big.Int {
	out := new(big.Int).Rand(r, new(big.Int).Sub(n, big.NewInt(1)))
	return out.Add(out, big.NewInt(1))
}

// signed: a right signature on P-256 by a drawn secret with a draw.
func signed(draw *rand.Rand, hash []byte) (q api.Point, r, s *big.Int) {
	points, n := wide()
	secret, k := below(draw, n), below(draw, n)
	x, y := points.ScalarBaseMult(secret.FillBytes(make([]byte, 32)))
	r, _ = points.ScalarBaseMult(k.FillBytes(make([]byte, 32)))
	r.Mod(r, n)
	s = new(big.Int).Mul(r, secret)
	s.Add(s, firstBits(hash, 256))
	s.Mul(s, k.ModInverse(k, n))
	return api.Point{X: limbsOf(x), Y: limbsOf(y)}, r, s.Mod(s, n)
}

// asTheLibrary: the answer is the library's too.
func asTheLibrary(t *testing.T, what string, q api.Point, hash []byte, r, s *big.Int, want bool) {
	t.Helper()
	key := library.PublicKey{Curve: elliptic.P256(), X: value(q.X), Y: value(q.Y)}
	if library.Verify(&key, hash, r, s) != want {
		t.Fatalf("%s: the library doesn't say %v", what, want)
	}
	if got := ecdsa.Verify(p256(), q, hash, limbsOf(r), limbsOf(s)); got != want {
		t.Errorf("Verify of %s: %v (q %v, hash %x, r %x, s %x)", what, got, q, hash, r, s)
	}
}

func TestP82DrawnSignaturesOnP256(t *testing.T) {
	_, n := wide()
	draw := rand.New(rand.NewSource(3))
	one := big.NewInt(1)
	for _, size := range []int{1, 20, 31, 32, 33, 48, 64, 512} {
		hash, other := make([]byte, size), make([]byte, size)
		draw.Read(hash)
		copy(other, hash)
		other[min(size, 32)-1] ^= 1
		q, r, s := signed(draw, hash)
		stranger, _, _ := signed(draw, hash)
		asTheLibrary(t, "a right signature", q, hash, r, s, true)
		asTheLibrary(t, "the opposite s", q, hash, r, new(big.Int).Sub(n, s), true)
		asTheLibrary(t, "another hash", q, other, r, s, false)
		asTheLibrary(t, "another key", stranger, hash, r, s, false)
		asTheLibrary(t, "another r", q, hash, new(big.Int).Add(r, one), s, false)
		asTheLibrary(t, "another s", q, hash, r, new(big.Int).Sub(s, one), false)
		asTheLibrary(t, "r and s changed over", q, hash, s, r, false)
		if size > 32 {
			hash[32] ^= 0xff
			asTheLibrary(t, "another byte behind the first bits", q, hash, r, s, true)
		}
	}
}

// keyOf: the key by which r and s are a signature of a digest, for a point of that X: q is (s R - z G) / r. Nil, if no point has it.
func keyOf(x, r, s, z *big.Int) *api.Point {
	points, n := wide()
	p := points.Params().P
	square := new(big.Int).Exp(x, big.NewInt(3), p)
	square.Sub(square, new(big.Int).Mul(x, big.NewInt(3)))
	square.Add(square, points.Params().B)
	y := new(big.Int).ModSqrt(square.Mod(square, p), p)
	if y == nil {
		return nil
	}
	part := func(a *big.Int) []byte {
		a = new(big.Int).Mul(a, new(big.Int).ModInverse(r, n))
		return a.Mod(a, n).FillBytes(make([]byte, 32))
	}
	ax, ay := points.ScalarMult(x, y, part(s))
	bx, by := points.ScalarBaseMult(part(new(big.Int).Neg(z)))
	qx, qy := points.Add(ax, ay, bx, by)
	return &api.Point{X: limbsOf(qx), Y: limbsOf(qy)}
}

// Points of P-256 whose X is N or more are so rare that no draw meets one; their keys are told from the signatures.
func TestP82AnXOfNOrMoreOnP256(t *testing.T) {
	_, n := wide()
	s, z, found := big.NewInt(3), big.NewInt(77), 0
	for i := range int64(20) {
		r := big.NewInt(i + 1)
		x := new(big.Int).Add(n, r)
		q := keyOf(x, r, s, z)
		if q == nil {
			continue
		}
		found++
		asTheLibrary(t, "an X above N", *q, []byte{77}, r, s, true)
		asTheLibrary(t, "an X above N as r", *q, []byte{77}, x, s, false)
		asTheLibrary(t, "another r beside an X above N", *q, []byte{77}, big.NewInt(i+2), s, false)
	}
	if found < 3 {
		t.Errorf("%d points", found)
	}
}

// r differs from the sum's X by one bit, wherever it stands.
func TestP82AnXThatIsAlmostR(t *testing.T) {
	_, n := wide()
	s, z := big.NewInt(3), big.NewInt(77)
	q, x := nearest(t, new(big.Int).Rsh(n, 1), big.NewInt(1), s, z)
	asTheLibrary(t, "an X that is r", q, []byte{77}, x, s, true)
	for _, place := range []int{0, 1, 63, 64, 127, 128, 191, 192, 253} {
		r := new(big.Int).SetBit(x, place, 1-x.Bit(place))
		asTheLibrary(t, "an X that is almost r", *keyOf(x, r, s, z), []byte{77}, r, s, false)
	}
}

// nearest: the first r from one number on, each so far from the one ahead, that is a point's X, and the key by which it and s sign z.
func nearest(t *testing.T, from, step, s, z *big.Int) (q api.Point, r *big.Int) {
	t.Helper()
	r = new(big.Int).Set(from)
	for range 40 {
		if q := keyOf(r, r, s, z); q != nil {
			return *q, r
		}
		r.Add(r, step)
	}
	t.Fatalf("no X near %x", from)
	return api.Point{}, nil
}

// The least and the greatest s that may be, beside r that are near their edges.
func TestP82TheEdgesOfRAndSOnP256(t *testing.T) {
	_, n := wide()
	one, z := big.NewInt(1), big.NewInt(5)
	last := new(big.Int).Sub(n, one)
	for _, s := range []*big.Int{one, big.NewInt(2), last} {
		q, r := nearest(t, one, one, s, z)
		asTheLibrary(t, "a small r", q, []byte{5}, r, s, true)
		q, r = nearest(t, last, big.NewInt(-1), s, z)
		asTheLibrary(t, "a great r", q, []byte{5}, r, s, true)
	}
	g := api.Point{X: p256().Gx, Y: p256().Gy}
	asTheLibrary(t, "r and s of 1", g, last.Bytes(), one, one, false)
	asTheLibrary(t, "r and s of N - 1", g, last.Bytes(), last, last, false)
}

// u is 0 for a hash of zeros, for none, and for N's bytes.
func TestP82AUOfZeroOnP256(t *testing.T) {
	points, n := wide()
	draw := rand.New(rand.NewSource(4))
	q, _, _ := signed(draw, nil)
	v := below(draw, n)
	r, _ := points.ScalarMult(value(q.X), value(q.Y), v.FillBytes(make([]byte, 32)))
	r.Mod(r, n)
	s := new(big.Int).Mul(r, new(big.Int).ModInverse(v, n))
	s.Mod(s, n)
	for _, hash := range [][]byte{{0}, make([]byte, 32), make([]byte, 64), n.Bytes(), append(n.Bytes(), 9)} {
		asTheLibrary(t, "a u of 0", q, hash, r, s, true)
	}
	verifies(t, "a u of 0, of no bytes", p256(), q, nil, limbsOf(r), limbsOf(s), true)
	asTheLibrary(t, "a u of 1 in its place", q, []byte{1}, r, s, false)
}
