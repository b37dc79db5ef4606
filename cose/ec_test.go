package cose_test

import (
	"crypto/elliptic"
	"math"
	"math/big"
	"slices"
	"testing"

	"latchkey/api"
	"latchkey/cbor"
	"latchkey/curve"
)

// named: the chapter's curve by other numbers.
func named(alg, crv int64) api.Curve {
	c := small()
	c.Alg, c.Crv = alg, crv
	return c
}

// The curves of these tests are such as may be handed in (R9).
func TestCurvesAreRight(t *testing.T) {
	for _, c := range append(sized(), wide(), named(3, 4)) {
		if err := curve.Check(c); err != api.OK {
			t.Errorf("Check(%v): %d", c, err)
		}
	}
}

func TestP111AlgOfAPlace(t *testing.T) {
	list := []api.Curve{named(-7, 1), named(-35, 2), named(-36, 3), named(8, 6)}
	for place, c := range list {
		reads(t, pointItem(c.Alg, c.Crv, []byte{7}, []byte{75}), list, smallKey(place, 7, 75))
		reads(t, pointItem(c.Alg, c.Crv, []byte{7}, []byte{75}), list[place:], smallKey(0, 7, 75))
		unread(t, pointItem(c.Alg, c.Crv, []byte{7}, []byte{75}), list[:place], api.ErrAlg)
		unread(t, pointItem(c.Alg, c.Crv, []byte{7}, []byte{75}), list[place+1:], api.ErrAlg)
	}
}

func TestP111NoCurveOfTheAlg(t *testing.T) {
	for _, alg := range []int64{-6, -8, 6, 7, 0, 1, -257, math.MaxInt64, math.MinInt64} {
		unread(t, pointItem(alg, 1, []byte{7}, []byte{75}), curves(), api.ErrAlg)
	}
	for _, none := range [][]api.Curve{nil, {}} {
		unread(t, goodPoint(), none, api.ErrAlg)
		unread(t, pointItem(0, 0, []byte{7}, []byte{75}), none, api.ErrAlg)
	}
}

// The value of 3 may be missing, or be none that a curve's could be.
func TestP111AlgIsNoNumber(t *testing.T) {
	list := []api.Curve{named(0, 0), named(-1, 0), named(math.MaxInt64, 0), named(math.MinInt64, 0)}
	for place, c := range list {
		reads(t, pointItem(c.Alg, 0, []byte{7}, []byte{75}), list, smallKey(place, 7, 75))
	}
	i := pointItem(0, 0, []byte{7}, []byte{75})
	for _, value := range []api.Item{unsigned(1 << 63), unsigned(math.MaxUint64), negative(1 << 63), negative(math.MaxUint64), octets(), octets(0), text("0"), {}, {Kind: api.CNull}, {Kind: api.CArray}, pairs()} {
		unread(t, with(i, 3, value), list, api.ErrAlg)
	}
	unread(t, with(i, 2, unsigned(4)), list, api.ErrAlg)
}

// No curve of the Alg is told ahead of whatever else is wrong.
func TestP111AlgAheadOfTheOthers(t *testing.T) {
	right := goodPoint()
	for place := 4; place < 10; place++ {
		wrong := with(right, place, api.Item{Kind: api.CNull})
		unread(t, wrong, curves(), api.ErrKey)
		unread(t, with(wrong, 3, integer(-8)), curves(), api.ErrAlg)
		unread(t, wrong, curves()[1:], api.ErrAlg)
	}
	unread(t, pointItem(-8, 1, []byte{7}, []byte{76}), curves(), api.ErrAlg)
}

// Of two curves of one Alg the first one counts, though the others be the second one's.
func TestP111FirstCurveOfTheAlg(t *testing.T) {
	twin, other := named(-7, 2), wide()
	other.Alg = -7
	x, y := above(other, big.NewInt(1))
	item := pointItem(-7, other.Crv, fill(x, 2), fill(y, 2))

	reads(t, goodPoint(), []api.Curve{small(), small()}, smallKey(0, 7, 75))
	reads(t, goodPoint(), []api.Curve{small(), twin}, smallKey(0, 7, 75))
	reads(t, goodPoint(), []api.Curve{named(-8, 1), small(), twin, small()}, smallKey(1, 7, 75))
	unread(t, goodPoint(), []api.Curve{twin, small()}, api.ErrKey)
	unread(t, pointItem(-7, 2, []byte{7}, []byte{75}), []api.Curve{small(), twin}, api.ErrKey)
	reads(t, item, []api.Curve{other, small()}, ecKey(0, x, y))
	unread(t, item, []api.Curve{small(), other}, api.ErrKey)
	unread(t, item, []api.Curve{twin, other}, api.ErrKey)
}

func TestP111Crv(t *testing.T) {
	edges := []int64{0, 1, 2, -1, -2, 255, 256, math.MaxInt64, math.MinInt64}
	for _, crv := range edges {
		list := []api.Curve{named(-7, crv)}
		for _, told := range edges {
			i := pointItem(-7, told, []byte{7}, []byte{75})
			if told == crv {
				reads(t, i, list, smallKey(0, 7, 75))
				continue
			}
			unread(t, i, list, api.ErrKey)
		}
		for _, value := range []api.Item{unsigned(1 << 63), unsigned(math.MaxUint64), negative(1 << 63), negative(math.MaxUint64), octets(1), text("1"), {}} {
			unread(t, with(pointItem(-7, crv, []byte{7}, []byte{75}), 5, value), list, api.ErrKey)
		}
	}
	// Another curve's Crv is none of this one's.
	unread(t, pointItem(-7, 2, []byte{7}, []byte{75}), curves(), api.ErrKey)
}

// Of the chapter's curve, every two bytes.
func TestP111EveryTwoBytes(t *testing.T) {
	on, list := 0, []api.Curve{small()}
	for x := range 256 {
		for y := range 256 {
			i := pointItem(-7, 1, []byte{byte(x)}, []byte{byte(y)})
			if x < 251 && y < 251 && (y*y-x*x*x-x-4)%251 == 0 {
				reads(t, i, list, smallKey(0, int64(x), int64(y)))
				on++
				continue
			}
			unread(t, i, list, api.ErrKey)
		}
	}
	if on != 270 {
		t.Errorf("%d points, not N less the one that is nothing", on)
	}
}

// Points of curves of all sizes, and just as many bytes as Size: not fewer, though zeros stand ahead, and not more.
func TestP111Sizes(t *testing.T) {
	for _, c := range sized() {
		size, list := sizeOf(c), []api.Curve{c}
		for _, from := range []*big.Int{big.NewInt(0), big.NewInt(1), plus(twoTo(8*size-9), 0), plus(valueOf(c.P), -40)} {
			if from.Sign() < 0 || from.Cmp(valueOf(c.P)) >= 0 {
				continue
			}
			x, y := above(c, from)
			if x.Cmp(valueOf(c.P)) >= 0 {
				continue
			}
			bytesX, bytesY := fill(x, size), fill(y, size)
			item := func(x, y []byte) api.Item { return pointItem(c.Alg, c.Crv, x, y) }
			reads(t, item(bytesX, bytesY), list, ecKey(0, x, y))
			for _, other := range [][]byte{bytesX[1:], append([]byte{0}, bytesX...), append(slices.Clone(bytesX), 0), make([]byte, 512+size), nil} {
				unread(t, item(other, bytesY), list, api.ErrKey)
			}
			for _, other := range [][]byte{bytesY[1:], append([]byte{0}, bytesY...), append(slices.Clone(bytesY), 0), make([]byte, 512+size), nil} {
				unread(t, item(bytesX, other), list, api.ErrKey)
			}
			// As many bytes in all, but not of each.
			unread(t, item(bytesX[1:], append([]byte{0}, bytesY...)), list, api.ErrKey)
			unread(t, item(append([]byte{0}, bytesX...), bytesY[1:]), list, api.ErrKey)
		}
	}
}

// One off in either number is no point; nor is a point whose numbers stand in each other's place.
func TestP111Off(t *testing.T) {
	for _, c := range sized() {
		size, list := sizeOf(c), []api.Curve{c}
		x, y := above(c, big.NewInt(2))
		judged(t, pointItem(c.Alg, c.Crv, fill(plus(x, 1), size), fill(y, size)), list)
		if y.Sign() == 0 || plus(y, 1).Cmp(valueOf(c.P)) >= 0 {
			continue
		}
		unread(t, pointItem(c.Alg, c.Crv, fill(x, size), fill(plus(y, 1), size)), list, api.ErrKey)
		judged(t, pointItem(c.Alg, c.Crv, fill(y, size), fill(x, size)), list)
	}
	unread(t, pointItem(-7, 1, []byte{75}, []byte{7}), curves(), api.ErrKey)
}

// Numbers from P on are no point's, though they be a point's modulo P.
func TestP111NotBelowP(t *testing.T) {
	// (0, 2) is a point of the chapter's curve.
	reads(t, pointItem(-7, 1, []byte{0}, []byte{2}), curves(), smallKey(0, 0, 2))
	unread(t, pointItem(-7, 1, []byte{251}, []byte{2}), curves(), api.ErrKey)
	unread(t, pointItem(-7, 1, []byte{0}, []byte{253}), curves(), api.ErrKey)
	unread(t, pointItem(-7, 1, []byte{251}, []byte{253}), curves(), api.ErrKey)
	tried := 0
	for _, c := range sized() {
		size, p := sizeOf(c), valueOf(c.P)
		x, y := above(c, big.NewInt(0))
		sum := new(big.Int).Add(x, p)
		reads(t, pointItem(c.Alg, c.Crv, fill(x, size), fill(y, size)), []api.Curve{c}, ecKey(0, x, y))
		if len(sum.Bytes()) == size {
			unread(t, pointItem(c.Alg, c.Crv, fill(sum, size), fill(y, size)), []api.Curve{c}, api.ErrKey)
			tried++
		}
	}
	if tried < 5 {
		t.Errorf("only %d curves", tried)
	}
}

// The key of RFC 9052, C.7.1, with the number by which its signatures are named in place of its name.
func TestP111KnownKey(t *testing.T) {
	x, y := "65eda5a12577c2bae829437fe338701a10aaa375e1bb5b5de108de439c08551d", "1e52ed75701163f7f9e40ddf9f341b3dc9ba860af7e0ca7ca7e9eecd0084d19c"
	form := unhex("a5 01 02 03 26 20 01 21 58 20" + x + "22 58 20" + y)
	i, err := cbor.Whole(form)
	if err != api.OK {
		t.Fatal(err)
	}
	want := ecKey(0, hexInt(x), hexInt(y))
	reads(t, i, []api.Curve{p256()}, want)
	writes(t, want, []api.Curve{p256()}, form)
	unread(t, i, []api.Curve{small(), p256()}, api.ErrKey)
}

// Points of P-256 by the library's curve.
func TestP111LibraryPoints(t *testing.T) {
	for k := range 40 {
		x, y := elliptic.P256().ScalarBaseMult([]byte{byte(k + 1), byte(k)})
		reads(t, pointItem(-7, 1, fill(x, 32), fill(y, 32)), []api.Curve{p256()}, ecKey(0, x, y))
		unread(t, pointItem(-7, 1, fill(x, 32), fill(plus(y, -1), 32)), []api.Curve{p256()}, api.ErrKey)
	}
}
