package cert_test

import (
	"slices"
	"testing"

	"latchkey/api"
)

// onPlace: barePoint's key is of the curve of that place.
func onPlace(place int) api.Cert {
	c := barely()
	c.Key.Curve = place
	return c
}

func TestP132NoCurves(t *testing.T) {
	for _, curves := range [][]api.Curve{nil, {}, {least()}, {p256(), least()}} {
		refusedOn(t, "no such curve", barePoint().form(), curves, api.ErrAlg)
		refusedOn(t, "no such curve", fullPoint().form(), curves, api.ErrAlg)
		// A key by powers needs none, nor does a signature by points.
		parsesOn(t, "a key by powers", barePower().form(), curves, barelyPower())
		mixed := bare(powerKey(), pointAlg)
		want := signedAs(barelyPower(), mixed)
		want.Alg = 0
		parsesOn(t, "a key by powers", mixed.form(), curves, want)
	}
}

// The first curve that has the OID is the key's, be the point on another one or not.
func TestP132FirstCurve(t *testing.T) {
	other := least()
	other.Oid = small().Oid
	for at := range 5 {
		before := slices.Repeat([]api.Curve{least(), p256()}, 3)[:at]
		parsesOn(t, "one curve", barePoint().form(), append(slices.Clone(before), small()), onPlace(at))
		parsesOn(t, "two such curves", barePoint().form(), append(slices.Clone(before), small(), small()), onPlace(at))
		parsesOn(t, "another such curve behind", barePoint().form(), append(slices.Clone(before), small(), other), onPlace(at))
		refusedOn(t, "another such curve ahead", barePoint().form(), append(slices.Clone(before), other, small()), api.ErrKey)
	}
	// (5, 1) is on the one that is ahead, alone.
	tree := barePoint().set("point", "00 04 05 01")
	want := signedAs(barely(), tree)
	want.Key = api.Key{Kind: api.KEc, Point: api.Point{X: api.Nat{5}, Y: api.Nat{1}}}
	parsesOn(t, "the point of the one that is ahead", tree.form(), []api.Curve{other, small()}, want)
	refusedOn(t, "the point of the one behind", tree.form(), []api.Curve{small(), other}, api.ErrKey)
}

// A curve is known by all its OID's numbers, and by nothing else.
func TestP132Oid(t *testing.T) {
	for _, oid := range [][]uint64{nil, {}, {1}, {1, 3}, {1, 3, 132}, {1, 3, 132, 1}, {1, 3, 132, 0, 0}, {1, 3, 133, 0}, {0, 3, 132, 0}, {2, 3, 132, 0}, {43, 132, 0}, {1, 3, 132, 1 << 63}, make([]uint64, 40)} {
		c := small()
		c.Oid = oid
		refusedOn(t, "another OID", barePoint().form(), []api.Curve{c}, api.ErrAlg)
		parsesOn(t, "another OID ahead", barePoint().form(), []api.Curve{c, small()}, onPlace(1))
	}
	c := small()
	c.Alg, c.Crv = -99, 77
	parsesOn(t, "other numbers by which it is named", barePoint().form(), []api.Curve{c}, onPlace(0))
	for _, oid := range []string{"2b 81 04", "2b 81 04 02", "2b 81 04 00 00", "2b 81 05 00", "00 81 04 00", "2a 86 48 ce 3d 03 01 01", "7b 81 04 00"} {
		refused(t, "a key's other curve", fullPoint().set("curve oid", oid), api.ErrAlg)
	}
	// An OID of the most numbers, with the greatest one.
	long := small()
	long.Oid = []uint64{2, 1<<63 - 81, 0, 1, 2, 3, 4, 5, 6, 7, 8, 9, 10, 11, 12, 1<<63 - 1}
	tree := barePoint().put("curve oid", whole("curve oid", oidOf(long.Oid...)))
	parsesOn(t, "a long OID", tree.form(), []api.Curve{small(), long}, signedAs(onPlace(1), tree))
}

// X and Y each have Size bytes, which hangs on P alone.
func TestP132Size(t *testing.T) {
	tree := fullPoint().set("curve oid", "2a 86 48 ce 3d 03 01 07").set("point", "00 04"+
		"6b17d1f2e12c4247f8bce6e563a440f277037d812deb33a0f4a13945d898c296"+"4fe342e2fe1a7f9b8ee7eb4a7c0f9e162bce33576b315ececbb6406837bf51f5")
	want := fully(barely(), tree)
	want.Key = api.Key{Kind: api.KEc, Curve: 2, Point: api.Point{X: p256().Gx, Y: p256().Gy}}
	parses(t, "P-256's own point", tree, want)
	bits := tree.at("point").head
	for at := range bits {
		if at > 0 {
			tree.at("point").head = slices.Delete(slices.Clone(bits), at, at+1)
			refused(t, "a byte left out", tree, api.ErrKey)
			tree.at("point").head = slices.Insert(slices.Clone(bits), at, 0)
			refused(t, "a byte of 0 more", tree, api.ErrKey)
		}
	}
	tree.at("point").head = unhex("00 04 07 4b")
	refused(t, "a point of another size", tree, api.ErrKey)
}

// Of a key it is looked at whether the first OID is right, then the bits, then whether the first OID is known, then the second OID, then what the bits hold.
func TestP132Order(t *testing.T) {
	unknown, broken := "2b 81 04 07", "2b 81"
	wrongBits := []string{"", "01", "08 04 07 4b", "01 04 07 4b", "01 04 07 b0"}
	for _, bits := range wrongBits {
		refused(t, "bits that are wrong, a curve that is unknown", fullPoint().set("point", bits).set("curve oid", unknown), api.ErrCert)
		refusedOn(t, "bits that are wrong, no curves", fullPoint().set("point", bits).form(), nil, api.ErrCert)
		refused(t, "a kind that is unknown, bits that are wrong", fullPoint().set("point", bits).set("kind oid", unknown), api.ErrCert)
		refused(t, "a kind that is unknown, bits that are wrong, a curve that is", fullPoint().set("point", bits).set("kind oid", unknown).set("curve oid", broken), api.ErrCert)
		refused(t, "no NULL, bits that are wrong", fullPower().set("powers", bits).set("kind null", "00"), api.ErrCert)
		refused(t, "a kind that is wrong, bits too", fullPoint().set("point", bits).set("kind oid", broken), api.ErrCert)
	}
	for _, tag := range []byte{2, 4, 0x30, 0x23} {
		refused(t, "no bits, a curve that is unknown", fullPoint().tagged("point", tag).set("curve oid", unknown), api.ErrCert)
		refused(t, "a kind that is unknown, no bits", fullPoint().tagged("point", tag).set("kind oid", unknown), api.ErrCert)
	}
	for _, bits := range []string{"00", "00 04 07 4a", "00 04 07", "00 05 07 4b"} {
		refused(t, "a curve that is unknown, bits of no point", fullPoint().set("point", bits).set("curve oid", unknown), api.ErrAlg)
		refusedOn(t, "no curves, bits of no point", fullPoint().set("point", bits).form(), nil, api.ErrAlg)
		refused(t, "a curve that is wrong, bits of no point", fullPoint().set("point", bits).set("curve oid", broken), api.ErrCert)
		refused(t, "a kind that is unknown, bits of no point", fullPoint().set("point", bits).set("kind oid", unknown), api.ErrAlg)
		refused(t, "a kind that is unknown, bits of no point, a curve that is wrong", fullPoint().set("point", bits).set("kind oid", unknown).set("curve oid", broken), api.ErrAlg)
		refused(t, "no NULL, bits of no numbers", fullPower().set("powers", bits).set("kind null", "00"), api.ErrAlg)
	}
}
