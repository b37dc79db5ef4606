package cose_test

import (
	"math/big"
	"slices"
	"testing"

	"latchkey/api"
	"latchkey/cose"
)

var f4 = big.NewInt(65537)

// moduli: some that rsa.Check takes, of Sizes at the edges and about where limbs begin.
func moduli() []*big.Int {
	out := []*big.Int{least(), greatest()}
	for _, bits := range []int{8 * 62, 8 * 63, 8 * 64, 8 * 65, 1024, 2040} {
		out = append(out, plus(twoTo(bits), -1), plus(twoTo(bits-1), 1))
	}
	return out
}

// bothRight: an item of a right key is read and written, whatever the curves are.
func bothRight(t *testing.T, n, e *big.Int) {
	t.Helper()
	for _, list := range [][]api.Curve{nil, {}, curves(), {named(-257, 1)}} {
		reads(t, rsaItem(-257, n.Bytes(), e.Bytes()), list, rsaKey(n, e))
	}
}

func TestP111RightPowers(t *testing.T) {
	for _, n := range moduli() {
		for _, e := range []*big.Int{big.NewInt(3), big.NewInt(5), big.NewInt(255), big.NewInt(257), f4, plus(twoTo(64), 1), plus(twoTo(128), -1), plus(n, -2)} {
			bothRight(t, n, e)
		}
	}
}

func TestP111WrongPowers(t *testing.T) {
	small, great := plus(twoTo(8*61), -1), plus(twoTo(8*256), 1)
	wrong := [][2]*big.Int{
		{small, f4}, {great, f4}, {plus(least(), 1), f4}, {plus(greatest(), -1), f4}, {big.NewInt(1), f4}, {big.NewInt(0), f4}, {f4, big.NewInt(3)},
		{least(), big.NewInt(0)}, {least(), big.NewInt(1)}, {least(), big.NewInt(2)}, {least(), big.NewInt(4)}, {least(), big.NewInt(65536)},
		{least(), plus(least(), -1)}, {least(), least()}, {least(), plus(least(), 2)}, {least(), greatest()}, {big.NewInt(0), big.NewInt(0)},
	}
	for _, k := range wrong {
		unread(t, rsaItem(-257, k[0].Bytes(), k[1].Bytes()), curves(), api.ErrKey)
	}
}

func TestP111AlgOfPowers(t *testing.T) {
	right := goodRsa()
	for _, alg := range []int64{-256, -258, -1, 0, 256, 257, -7, -37, -65535} {
		// Nor is it asked whether a curve has it.
		for _, list := range [][]api.Curve{nil, curves(), {named(alg, 1)}} {
			unread(t, with(right, 3, integer(alg)), list, api.ErrAlg)
		}
	}
	for _, value := range []api.Item{unsigned(256), negative(256 + 1<<32), negative(1<<64 - 257), unsigned(1<<64 - 257), octets(1, 0), text("-257"), {}, {Kind: api.CNull, N: 256}} {
		unread(t, with(right, 3, value), curves(), api.ErrAlg)
	}
	unread(t, with(right, 2, unsigned(4)), curves(), api.ErrAlg)
}

func TestP111AlgAheadOfPowers(t *testing.T) {
	for place := 4; place < 8; place++ {
		wrong := with(goodRsa(), place, api.Item{Kind: api.CNull})
		unread(t, wrong, curves(), api.ErrKey)
		unread(t, with(wrong, 3, integer(-7)), curves(), api.ErrAlg)
	}
	unread(t, rsaItem(-256, nil, nil), curves(), api.ErrAlg)
}

// A 0 ahead is refused of numbers that would be right without it, whatever else has its bytes.
func TestP111ZeroAhead(t *testing.T) {
	for _, n := range moduli() {
		for _, e := range []*big.Int{big.NewInt(3), f4, plus(n, -2)} {
			right, rightE := n.Bytes(), e.Bytes()
			for _, zeros := range [][]byte{{0}, {0, 0}, make([]byte, 40)} {
				unread(t, rsaItem(-257, append(slices.Clone(zeros), right...), rightE), nil, api.ErrKey)
				unread(t, rsaItem(-257, right, append(slices.Clone(zeros), rightE...)), nil, api.ErrKey)
				unread(t, rsaItem(-257, append(slices.Clone(zeros), right...), append(slices.Clone(zeros), rightE...)), nil, api.ErrKey)
			}
			// Zeros elsewhere are no fault: the number is another one.
			judged(t, rsaItem(-257, append(slices.Clone(right[:len(right)-1]), 0, 1), rightE), nil)
		}
	}
	unread(t, rsaItem(-257, append([]byte{0}, make([]byte, 61)...), []byte{3}), nil, api.ErrKey)
}

// No byte, and as many as a number may have that is read, and one more.
func TestP111LengthsOfPowers(t *testing.T) {
	row := func(size int) []byte {
		b := make([]byte, size)
		for at := range b {
			b[at] = 0xff
		}
		return b
	}
	zeros := func(size int, behind []byte) []byte { return append(make([]byte, size-len(behind)), behind...) }
	right := least().Bytes()
	for _, size := range []int{0, 1, 61, 257, 511, 512, 513, 514, 1024, 8000} {
		unread(t, rsaItem(-257, row(size), []byte{3}), nil, api.ErrKey)
		unread(t, rsaItem(-257, row(size), row(size)), nil, api.ErrKey)
		if size != 0 && size != 1 && size != 61 {
			unread(t, rsaItem(-257, right, row(size)), nil, api.ErrKey)
			unread(t, rsaItem(-257, zeros(size, right), []byte{3}), nil, api.ErrKey)
			unread(t, rsaItem(-257, right, zeros(size, []byte{3})), nil, api.ErrKey)
			unread(t, rsaItem(-257, greatest().Bytes(), row(size)), nil, api.ErrKey)
		}
	}
	unread(t, rsaItem(-257, right, nil), nil, api.ErrKey)
	unread(t, rsaItem(-257, right, []byte{0}), nil, api.ErrKey)
	unread(t, rsaItem(-257, nil, nil), nil, api.ErrKey)
	for _, size := range []int{62, 63, 64, 255, 256} {
		bothRight(t, new(big.Int).SetBytes(row(size)), big.NewInt(3))
		bothRight(t, new(big.Int).SetBytes(row(size)), new(big.Int).SetBytes(row(size-1)))
	}
}

// N and E aren't each other's: -1 is N.
func TestP111PowersInTheirPlaces(t *testing.T) {
	bothRight(t, least(), plus(least(), -2))
	unread(t, rsaItem(-257, plus(least(), -2).Bytes(), least().Bytes()), nil, api.ErrKey)
	got, err := cose.Read(rsaItem(-257, greatest().Bytes(), least().Bytes()), nil)
	if err != api.OK || valueOf(got.Rsa.N).Cmp(greatest()) != 0 || valueOf(got.Rsa.E).Cmp(least()) != 0 {
		t.Errorf("%v, error %d", got, err)
	}
}
