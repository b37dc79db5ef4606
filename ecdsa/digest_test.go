package ecdsa_test

import (
	"bytes"
	"math/big"
	"math/rand"
	"slices"
	"testing"

	"latchkey/api"
	"latchkey/ecdsa"
	"latchkey/nat"
)

// ofBits: a curve with an N of so many bits, which is all that a digest hangs on.
func ofBits(n int) api.Curve {
	if n == 0 {
		return api.Curve{}
	}
	return api.Curve{N: nat.Shift(api.Nat{1}, 1-n)}
}

// firstBits: the number of the first so many bits, put together bit by bit; of all of them, if there are no more.
func firstBits(hash []byte, n int) *big.Int {
	out := new(big.Int)
	for i := range min(n, 8*len(hash)) {
		out.Lsh(out, 1)
		if hash[i/8]>>(7-i%8)&1 == 1 {
			out.SetBit(out, 0, 1)
		}
	}
	return out
}

// digests: the digest is just that number, without limbs of 0 on top.
func digests(t *testing.T, c api.Curve, hash []byte, want api.Nat) {
	t.Helper()
	if got := ecdsa.Digest(c, hash); !slices.Equal(got, want) {
		t.Errorf("Digest of %x, N of %d bits: %x, not %x", hash, nat.Len(c.N), got, want)
	}
	c.N = padded(c.N)
	if got := ecdsa.Digest(c, hash); !slices.Equal(got, want) {
		t.Errorf("Digest of %x, N of %d bits, padded: %x, not %x", hash, nat.Len(c.N), got, want)
	}
}

func TestP81Example(t *testing.T) {
	digests(t, small(), []byte{0xff, 0xff}, api.Nat{511})
}

func TestP81DigestOfNoBytes(t *testing.T) {
	for _, n := range []int{0, 1, 8, 9, 256, 4097} {
		digests(t, ofBits(n), nil, nil)
		digests(t, ofBits(n), []byte{}, nil)
	}
}

// An N of 9 bits: fewer bits than that, more by 1 to 8 and by more than 8.
func TestP81DigestOfTheExamplesCurve(t *testing.T) {
	c := small()
	digests(t, c, []byte{0xff}, api.Nat{0xff})
	digests(t, c, []byte{0x01}, api.Nat{1})
	digests(t, c, []byte{0x40, 0x80}, api.Nat{0x81})
	digests(t, c, []byte{0x40, 0x7f}, api.Nat{0x80}) // cut, not rounded
	digests(t, c, []byte{0x87, 0x80}, api.Nat{271})
	digests(t, c, []byte{0x80, 0, 0}, api.Nat{256})
	digests(t, c, []byte{0xff, 0x7f, 0xff, 0xff}, api.Nat{510})
	digests(t, c, bytes.Repeat([]byte{0xff}, 512), api.Nat{511})
}

// Bytes have 8 bits each, those of 0 ahead too: they are among the first.
func TestP81DigestOfLeadingZeros(t *testing.T) {
	c := small()
	digests(t, c, []byte{0, 0xff}, api.Nat{1})
	digests(t, c, []byte{0, 0x7f}, nil)
	digests(t, c, []byte{0, 0x80}, api.Nat{1})
	digests(t, c, []byte{0, 0, 0xff, 0xff}, nil)
	digests(t, c, []byte{0x01, 0xff}, api.Nat{3})
	digests(t, c, []byte{0}, nil)
	digests(t, p256(), []byte{0, 0, 5}, api.Nat{5})
	digests(t, p256(), append(make([]byte, 31), 7, 0xff), api.Nat{7})
	digests(t, p256(), append(make([]byte, 32), 0xff), nil)
	digests(t, p256(), append(make([]byte, 24), 0xff, 1, 2, 3, 4, 5, 6, 7), api.Nat{0xff01020304050607})
}

// Each count of bytes beside each size of N: fewer bits than N has, as many, more.
func TestP81DigestAtEachEdge(t *testing.T) {
	hash := []byte{0xc5, 0x3a, 0x97, 0x01, 0xfe, 0x80, 0x7f, 0xaa, 0x55, 0x99, 0x66, 0x0f}
	for size := range len(hash) + 1 {
		for n := range 8*len(hash) + 20 {
			digests(t, ofBits(n), hash[:size], limbsOf(firstBits(hash[:size], n)))
		}
	}
}

func TestP81DigestOnP256(t *testing.T) {
	c := p256()
	hash := make([]byte, 64)
	for i := range hash {
		hash[i] = byte(255 - i)
	}
	whole := hexNat("fffefdfcfbfaf9f8f7f6f5f4f3f2f1f0efeeedecebeae9e8e7e6e5e4e3e2e1e0")
	digests(t, c, hash[:32], whole)
	digests(t, c, hash[:33], whole)
	digests(t, c, hash[:48], whole)
	digests(t, c, hash, whole)
	digests(t, c, hash[:20], hexNat("fffefdfcfbfaf9f8f7f6f5f4f3f2f1f0efeeedec"))
}

// A number that isn't below N is told as it is.
func TestP81DigestIsNotReduced(t *testing.T) {
	digests(t, p256(), bytes.Repeat([]byte{0xff}, 32), api.Nat{top, top, top, top})
	digests(t, ofBits(8), []byte{0xff}, api.Nat{0xff}) // N is 128
	digests(t, api.Curve{N: api.Nat{3}}, []byte{0xc0}, api.Nat{3})
}

func TestP81DigestWithAnNOfZero(t *testing.T) {
	for _, zero := range []api.Nat{nil, {}, {0}, {0, 0, 0}} {
		for _, hash := range [][]byte{{1}, {0xff, 0xff}, bytes.Repeat([]byte{0xff}, 32), bytes.Repeat([]byte{0xff}, 512)} {
			digests(t, api.Curve{N: zero}, hash, nil)
		}
	}
}

// As many bytes as may be, with an N of fewer bits, as many, and more.
func TestP81DigestOf512Bytes(t *testing.T) {
	hash := make([]byte, 512)
	r := rand.New(rand.NewSource(1))
	r.Read(hash)
	hash[0] |= 0x80
	for _, n := range []int{1, 7, 8, 9, 64, 65, 255, 256, 257, 4087, 4088, 4089, 4095, 4096} {
		digests(t, ofBits(n), hash, limbsOf(firstBits(hash, n)))
		digests(t, ofBits(n), hash[:511], limbsOf(firstBits(hash[:511], n)))
	}
	digests(t, api.Curve{N: append(make(api.Nat, 64), 1)}, hash, limbsOf(new(big.Int).SetBytes(hash)))
	digests(t, api.Curve{N: append(make(api.Nat, 99), 1)}, hash, limbsOf(new(big.Int).SetBytes(hash)))
}

// Of more bytes than may be the chapter says nothing; the first bits are told of them too, lest all of them have one digest.
func TestP81DigestOfMoreBytes(t *testing.T) {
	hash := bytes.Repeat([]byte{0xa5, 0x5a, 0x3c}, 400)
	for _, n := range []int{0, 1, 9, 256, 257} {
		for _, size := range []int{513, 520, 1200} {
			digests(t, ofBits(n), hash[:size], limbsOf(firstBits(hash, n)))
		}
	}
}

func TestP81DigestOfDrawnBytes(t *testing.T) {
	r := rand.New(rand.NewSource(2))
	for range 3000 {
		hash := make([]byte, r.Intn(80))
		r.Read(hash)
		clear(hash[:min(len(hash), r.Intn(4))])
		c := ofBits(r.Intn(300))
		if len(c.N) > 0 {
			c.N[0] |= r.Uint64() & (c.N[len(c.N)-1] - 1) // as many bits, another number
		}
		digests(t, c, hash, limbsOf(firstBits(hash, nat.Len(c.N))))
	}
}

// Of the curve N has a part in it, nothing else.
func TestP81DigestHangsOnNAlone(t *testing.T) {
	for _, hash := range [][]byte{nil, {1}, {0xff, 0xff}, {0x12, 0x34, 0x56}} {
		want := ecdsa.Digest(small(), hash)
		digests(t, api.Curve{N: api.Nat{271}}, hash, want)
		digests(t, api.Curve{N: api.Nat{511}}, hash, want)
		digests(t, api.Curve{N: api.Nat{256}}, hash, want)
		c := p256()
		c.N = api.Nat{300}
		digests(t, c, hash, want)
	}
}
