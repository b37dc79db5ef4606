package cose_test

import (
	"math"
	"math/big"
	"slices"
	"testing"

	"latchkey/api"
	"latchkey/cose"
)

// The forms by hand, with numbers of all lengths.
func TestP112WriteForms(t *testing.T) {
	list := []api.Curve{small(), wide(), named(0, -1), named(math.MaxInt64, math.MinInt64), named(-257, 300)}
	writes(t, smallKey(0, 7, 75), list, unhex("a5 01 02 03 26 20 01 21 41 07 22 41 4b"))
	writes(t, smallKey(1, 16, 0), list, unhex("a5 01 02 03 38 22 20 02 21 42 00 10 22 42 00 00"))
	writes(t, smallKey(2, 0, 2), list, unhex("a5 01 02 03 00 20 20 21 41 00 22 41 02"))
	writes(t, smallKey(3, 7, 75), list, unhex("a5 01 02 03 1b 7fffffffffffffff 20 3b 7fffffffffffffff 21 41 07 22 41 4b"))
	writes(t, smallKey(4, 7, 75), list, unhex("a5 01 02 03 39 0100 20 19 012c 21 41 07 22 41 4b"))
	form := slices.Concat(unhex("a4 01 03 03 39 0100 20 58 3e"), least().Bytes(), unhex("21 43 010001"))
	writes(t, rsaKey(least(), f4), nil, form)
	form = slices.Concat(unhex("a4 01 03 03 39 0100 20 59 0100"), greatest().Bytes(), unhex("21 41 03"))
	writes(t, rsaKey(greatest(), big.NewInt(3)), list, form)
}

func TestP112WriteOtherKinds(t *testing.T) {
	point, powers := smallKey(0, 7, 75), rsaKey(least(), f4)
	k := api.Key{Point: point.Point, Rsa: powers.Rsa}
	for kind := range 256 {
		k.Kind = api.KeyKind(kind)
		switch k.Kind {
		case api.KEc:
			writes(t, k, curves(), formOf(pointItem(-7, 1, []byte{7}, []byte{75})))
		case api.KRsa:
			writes(t, k, curves(), formOf(rsaItem(-257, least().Bytes(), f4.Bytes())))
		default:
			unwritten(t, k, curves())
			unwritten(t, api.Key{Kind: k.Kind}, curves())
		}
	}
}

// A Curve below 0, at the last place and behind it; of the other kind it isn't asked for.
func TestP112WritePlaces(t *testing.T) {
	list := []api.Curve{named(-7, 1), named(-8, 2), named(-9, 3), named(-10, 4)}
	for many := range len(list) + 1 {
		for _, place := range []int{math.MinInt, -257, -2, -1, 0, 1, 2, 3, 4, 5, 1 << 32, math.MaxInt} {
			k := smallKey(place, 7, 75)
			if place >= 0 && place < many {
				writes(t, k, list[:many], formOf(pointItem(list[place].Alg, list[place].Crv, []byte{7}, []byte{75})))
			} else {
				unwritten(t, k, list[:many])
			}
			powers := rsaKey(least(), f4)
			powers.Curve = place
			writes(t, powers, list[:many], formOf(rsaItem(-257, least().Bytes(), f4.Bytes())))
		}
	}
	unwritten(t, smallKey(0, 7, 75), []api.Curve{})
}

// The point that is nothing has no item, whatever numbers stand beside.
func TestP112WriteNothing(t *testing.T) {
	k := smallKey(0, 7, 75)
	k.Point.Inf = true
	unwritten(t, k, curves())
	unwritten(t, api.Key{Kind: api.KEc, Point: api.Point{Inf: true}}, curves())
	// Of the other kind the point isn't asked for.
	powers := rsaKey(least(), f4)
	powers.Point = k.Point
	writes(t, powers, curves(), formOf(goodRsa()))
}

// Numbers of Size bytes, up to their greatest, and of one more; whether the point is On isn't asked.
func TestP112WriteSizes(t *testing.T) {
	for _, c := range sized() {
		size, list := sizeOf(c), []api.Curve{c}
		over := twoTo(8 * size)
		right := []*big.Int{big.NewInt(0), big.NewInt(1), plus(valueOf(c.P), -1), valueOf(c.P), plus(over, -1), twoTo(8*size - 8), plus(twoTo(8*size-8), -1)}
		for _, x := range right {
			for _, y := range right {
				writes(t, ecKey(0, x, y), list, formOf(pointItem(c.Alg, c.Crv, fill(x, size), fill(y, size))))
			}
			for _, more := range []*big.Int{over, plus(over, 1), twoTo(8*size + 7), twoTo(8*size + 64), twoTo(4095), twoTo(4096), twoTo(9000)} {
				unwritten(t, ecKey(0, more, x), list)
				unwritten(t, ecKey(0, x, more), list)
				unwritten(t, ecKey(0, more, more), list)
			}
		}
	}
}

// What rsa.Check refuses has no item.
func TestP112WritePowers(t *testing.T) {
	refused := 0
	edges := []*big.Int{big.NewInt(0), big.NewInt(1), big.NewInt(2), big.NewInt(3), big.NewInt(4), f4, plus(twoTo(8*61), -1), twoTo(8 * 61), least(), plus(least(), 1), plus(least(), 2), twoTo(2047), greatest(), twoTo(2048), plus(twoTo(2048), 1), plus(twoTo(4096), -1), plus(twoTo(4096), 1), plus(twoTo(9000), 1)}
	for _, n := range edges {
		for _, e := range edges {
			k := rsaKey(n, e)
			if isRight(n, e) {
				writes(t, k, nil, formOf(rsaItem(-257, n.Bytes(), e.Bytes())))
				reads(t, rsaItem(-257, n.Bytes(), e.Bytes()), nil, k)
				continue
			}
			unwritten(t, k, curves())
			refused++
		}
	}
	if all := len(edges) * len(edges); refused == 0 || refused == all {
		t.Errorf("%d of %d refused", refused, all)
	}
	unwritten(t, api.Key{Kind: api.KRsa}, nil)
}

// What is written is read as the key: of each point of a small curve, at each place.
func TestP112WrittenIsRead(t *testing.T) {
	list := []api.Curve{named(-8, 5), small(), wide(), named(-9, 5)}
	tried := 0
	for place, c := range list {
		p := valueOf(c.P).Int64()
		for x := range p {
			for y := range p {
				if !isOn(c, big.NewInt(x), big.NewInt(y)) {
					continue
				}
				k := smallKey(place, x, y)
				i, err := cose.Write(k, list)
				if err != api.OK {
					t.Fatalf("Write(%v): error %d", k, err)
				}
				reads(t, i, list, k)
				tried++
			}
		}
	}
	if tried < 1000 {
		t.Errorf("only %d points", tried)
	}
}

func TestP112Alg(t *testing.T) {
	list := []api.Curve{named(-7, 1), named(math.MinInt64, 2), named(math.MaxInt64, 3), named(-7, 4)}
	k := rsaKey(least(), f4)
	k.Point = smallKey(0, 7, 75).Point
	for many := range len(list) + 1 {
		for _, place := range []int{math.MinInt, -2, -1, 0, 1, 2, 3, 4, 5, 1 << 32, math.MaxInt} {
			for kind := range 256 {
				k.Kind, k.Curve = api.KeyKind(kind), place
				want := int64(0)
				switch {
				case kind == 1 && place >= 0 && place < many:
					want = list[place].Alg
				case kind == 2:
					want = -257
				}
				if got := cose.Alg(k, list[:many]); got != want {
					t.Fatalf("Alg of kind %d, place %d of %d: %d, not %d", kind, place, many, got, want)
				}
			}
		}
	}
}

// Alg asks for neither the point nor the powers.
func TestP112AlgOfAnyNumbers(t *testing.T) {
	for _, k := range []api.Key{{Kind: api.KRsa}, rsaKey(big.NewInt(2), big.NewInt(2)), {Kind: api.KRsa, Curve: -1}} {
		for _, list := range [][]api.Curve{nil, {}, curves()} {
			if got := cose.Alg(k, list); got != -257 {
				t.Errorf("Alg(%v): %d", k, got)
			}
		}
	}
	for _, p := range []api.Point{{}, {Inf: true}, smallKey(0, 8, 8).Point, ecKey(0, twoTo(5000), f4).Point} {
		if got := cose.Alg(api.Key{Kind: api.KEc, Curve: 1, Point: p}, curves()); got != -35 {
			t.Errorf("Alg(%v): %d", p, got)
		}
	}
	for _, none := range [][]api.Curve{nil, {}} {
		if got := cose.Alg(smallKey(0, 7, 75), none); got != 0 {
			t.Errorf("Alg without curves: %d", got)
		}
	}
}
