package sigs_test

import (
	"math"
	"slices"
	"testing"

	"latchkey/api"
)

// none: signatures that are none of any key.
func none() [][]byte {
	return [][]byte{nil, {}, {0}, example(), make([]byte, 62), make([]byte, 4097)}
}

// Of another Kind: ErrKey, whatever else is right or wrong.
func TestP122OtherKinds(t *testing.T) {
	for _, s := range authors() {
		msg := []byte("latchkey")
		k, sig := s.key(), s.sign(msg)
		for kind := range 256 {
			k.Kind = api.KeyKind(kind)
			if k.Kind == api.KEc || k.Kind == api.KRsa {
				continue
			}
			for _, curves := range [][]api.Curve{three(), three()[:1], nil} {
				verifies(t, "another Kind", curves, k, msg, sig, api.ErrKey)
				verifies(t, "another Kind, another message", curves, k, nil, sig, api.ErrKey)
				for _, other := range none() {
					verifies(t, "another Kind, no signature", curves, k, msg, other, api.ErrKey)
				}
			}
		}
	}
	verifies(t, "nothing", nil, api.Key{}, nil, nil, api.ErrKey)
	verifies(t, "nothing, with curves", three(), api.Key{}, nil, nil, api.ErrKey)
	verifies(t, "nothing, with a pair", three(), api.Key{}, nil, example(), api.ErrKey)
}

// A Curve that is no place: ErrKey, whatever else is right or wrong.
func TestP122NoPlaceOfACurve(t *testing.T) {
	for _, s := range signers() {
		msg := []byte("latchkey")
		k, sig := s.key(), s.sign(msg)
		for _, place := range []int{-1, -2, -3, 3, 4, 5, 64, math.MaxInt32, math.MinInt32, math.MaxInt, math.MinInt, 1 << 32, 1<<32 + 1, -1 << 32} {
			k.Curve = place
			verifies(t, "a Curve that is no place", three(), k, msg, sig, api.ErrKey)
			verifies(t, "a Curve that is no place, another message", three(), k, nil, sig, api.ErrKey)
			for _, other := range none() {
				verifies(t, "a Curve that is no place, no signature", three(), k, msg, other, api.ErrKey)
			}
		}
	}
}

// Lists of each length: the last place is one, the place behind it is none.
func TestP122TheLastPlace(t *testing.T) {
	msg := []byte("latchkey")
	s := onSmall()
	k, sig := s.key(), s.sign(msg)
	for count := range 7 {
		curves := slices.Repeat([]api.Curve{small()}, count)
		for place := -2; place < count+3; place++ {
			k.Curve = place
			if place >= 0 && place < count {
				verifies(t, "a place", curves, k, msg, sig, api.OK)
				verifies(t, "a place, no signature", curves, k, msg, nil, api.ErrSig)
				continue
			}
			verifies(t, "no place", curves, k, msg, sig, api.ErrKey)
			verifies(t, "no place, no signature", curves, k, msg, nil, api.ErrKey)
		}
	}
}

// Without curves no point's key is of a place, not even of the first one.
func TestP122NoCurves(t *testing.T) {
	msg := []byte("latchkey")
	for _, curves := range [][]api.Curve{nil, {}, three()[:0]} {
		for _, s := range signers() {
			k, sig := s.key(), s.sign(msg)
			for k.Curve = -1; k.Curve < 4; k.Curve++ {
				verifies(t, "no curves", curves, k, msg, sig, api.ErrKey)
				verifies(t, "no curves, no signature", curves, k, msg, nil, api.ErrKey)
			}
		}
	}
}

// A key of KRsa is a modulus and an exponent, of no curve: what curves there are has no part in it.
func TestP122PowersWithoutCurves(t *testing.T) {
	msg := []byte("latchkey")
	for _, s := range []secret{low(), great()} {
		for _, curves := range [][]api.Curve{nil, {}, three()[:1], three()} {
			verifies(t, "a right signature by powers", curves, s.key(), msg, s.sign(msg), api.OK)
			verifies(t, "a wrong signature by powers", curves, s.key(), nil, s.sign(msg), api.ErrSig)
			verifies(t, "no signature by powers", curves, s.key(), msg, nil, api.ErrSig)
		}
	}
}

// The curve is that of the key's place, and no other one, wherever it stands.
func TestP122TheCurveOfThePlace(t *testing.T) {
	msg := []byte("latchkey")
	for _, s := range signers() {
		k, sig := s.key(), s.sign(msg)
		for at, other := range signers() {
			k.Curve = other.place
			want := api.ErrSig
			if at == s.place {
				want = api.OK
			}
			verifies(t, "a curve of three", three(), k, msg, sig, want)
		}
		// The names of a curve have no part in it, nor has a like one ahead.
		twin := three()[s.place]
		twin.Alg, twin.Crv, twin.Oid = -257, 0, nil
		k.Curve = 1
		verifies(t, "a curve without a name", []api.Curve{small(), twin, least()}, k, msg, sig, api.OK)
		odd := three()[s.place]
		p := s.field().add(s.field().g, s.field().g)
		odd.Gx, odd.Gy = limbsOf(p.x), limbsOf(p.y)
		want := api.ErrSig
		if first, second, _ := judge(sig); fieldOf(odd).holds(s.spot(), msg, first, second) {
			want = api.OK
		}
		verifies(t, "another G ahead", []api.Curve{odd, three()[s.place]}, k, msg, sig, api.OK)
		verifies(t, "another G in its place", []api.Curve{three()[s.place], odd}, k, msg, sig, want)
	}
}

// A signature of the other kind is none; what a key of the other kind would hold has no part in it.
func TestP122TheOtherKind(t *testing.T) {
	msg := []byte("latchkey")
	for _, s := range signers() {
		for _, other := range []secret{low(), great()} {
			byPoint, byPower := s.sign(msg), other.sign(msg)
			verifies(t, "powers by a point", three(), s.key(), msg, byPower, api.ErrSig)
			verifies(t, "a point by powers", three(), other.key(), msg, byPoint, api.ErrSig)
			both := s.key()
			both.Rsa = other.public()
			verifies(t, "a point, of a key of both", three(), both, msg, byPoint, api.OK)
			verifies(t, "powers, of a key of both", three(), both, msg, byPower, api.ErrSig)
			both.Kind = api.KRsa
			verifies(t, "powers, of a key of both", three(), both, msg, byPower, api.OK)
			verifies(t, "a point, of a key of both", three(), both, msg, byPoint, api.ErrSig)
			both.Point.Inf = true
			verifies(t, "powers, of a key of nothing and a modulus", three(), both, msg, byPower, api.OK)
			swapped := s.key()
			swapped.Kind = api.KRsa
			verifies(t, "a point as powers", three(), swapped, msg, byPoint, api.ErrSig)
			swapped = other.key()
			swapped.Kind = api.KEc
			verifies(t, "powers as a point", three(), swapped, msg, byPower, api.ErrSig)
		}
	}
}
