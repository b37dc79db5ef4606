package cose_test

import (
	"math"
	"math/big"
	"testing"

	"latchkey/api"
	"latchkey/cose"
)

// points: two rows of bytes are just that key, whatever place is told.
func points(t *testing.T, c api.Curve, x, y []byte) {
	t.Helper()
	for _, place := range []int{0, 1, 4, -1, math.MaxInt, math.MinInt} {
		want := ecKey(place, new(big.Int).SetBytes(x), new(big.Int).SetBytes(y))
		for _, c := range append(paddedCurves([]api.Curve{c}), c) {
			got, err := cose.Point(place, c, x, y)
			if err != api.OK || !sameKey(got, want) {
				t.Fatalf("Point(%d, %x, %x): %v, error %d; not %v, no error", place, x, y, got, err, want)
			}
		}
	}
}

// pointsNone: two rows of bytes are no key, and none stands beside the error.
func pointsNone(t *testing.T, c api.Curve, x, y []byte) {
	t.Helper()
	for _, place := range []int{0, 3, -1} {
		for _, c := range append(paddedCurves([]api.Curve{c}), c) {
			got, err := cose.Point(place, c, x, y)
			if err != api.ErrKey || !sameKey(got, api.Key{}) {
				t.Fatalf("Point(%d, %x, %x): %v, error %d; not none, error %d", place, x, y, got, err, api.ErrKey)
			}
		}
	}
}

func TestP112PointOfEveryTwoBytes(t *testing.T) {
	c := small()
	for x := range 256 {
		for y := range 256 {
			if isOn(c, big.NewInt(int64(x)), big.NewInt(int64(y))) {
				points(t, c, []byte{byte(x)}, []byte{byte(y)})
				continue
			}
			if got, err := cose.Point(0, c, []byte{byte(x)}, []byte{byte(y)}); err != api.ErrKey || !sameKey(got, api.Key{}) {
				t.Fatalf("Point of %d, %d: %v, error %d", x, y, got, err)
			}
		}
	}
}

// Point isn't bound to a Size: up to 512 bytes are read, zeros ahead included.
func TestP112PointLengths(t *testing.T) {
	for _, c := range sized() {
		x, y := above(c, big.NewInt(1))
		size := sizeOf(c)
		for _, sizeX := range []int{len(x.Bytes()), size, size + 1, 64, 511, 512} {
			for _, sizeY := range []int{len(y.Bytes()), size, 100, 512} {
				points(t, c, fill(x, sizeX), fill(y, sizeY))
			}
		}
		for _, long := range []int{513, 514, 520, 1024, 1 << 16} {
			pointsNone(t, c, fill(x, long), fill(y, size))
			pointsNone(t, c, fill(x, size), fill(y, long))
			pointsNone(t, c, fill(x, 512), fill(y, long))
			pointsNone(t, c, fill(x, long), fill(y, long))
		}
	}
}

// No byte is the number 0.
func TestP112PointOfNoBytes(t *testing.T) {
	for _, none := range [][]byte{nil, {}} {
		points(t, small(), none, []byte{2})
		pointsNone(t, small(), []byte{7}, none)
		pointsNone(t, small(), none, none)
		pointsNone(t, small(), none, []byte{3})
		pointsNone(t, small(), none, make([]byte, 513))
		points(t, wide(), none, none)
		points(t, wide(), []byte{16}, none)
		points(t, wide(), make([]byte, 512), none)
		pointsNone(t, wide(), make([]byte, 513), none)
		pointsNone(t, wide(), none, make([]byte, 513))
		pointsNone(t, wide(), []byte{17}, none)
		pointsNone(t, p256(), none, none)
	}
}

// Off the curve, and not below P.
func TestP112PointOff(t *testing.T) {
	for _, c := range sized() {
		x, y := above(c, big.NewInt(0))
		p := valueOf(c.P)
		points(t, c, fill(x, 40), fill(y, 40))
		pointsNone(t, c, fill(new(big.Int).Add(x, p), 40), fill(y, 40))
		pointsNone(t, c, fill(x, 40), fill(new(big.Int).Add(y, p), 40))
		pointsNone(t, c, fill(x, 40), fill(plus(y, 1), 40))
		pointsNone(t, c, fill(new(big.Int).Add(x, new(big.Int).Lsh(p, 2000)), 512), fill(y, 512))
		pointsNone(t, c, fill(plus(twoTo(4096), -1), 512), fill(y, 512))
		pointsNone(t, c, fill(x, 512), fill(plus(twoTo(4096), -1), 512))
	}
	pointsNone(t, small(), []byte{75}, []byte{7})
}
