package cert_test

import (
	"encoding/hex"
	"fmt"
	"math/big"
	"slices"
	"testing"

	"latchkey/api"
)

// null: the piece that stands behind an OID of powers.
func null() []byte { return piece(5) }

// withAlgs: a bare certificate both of whose algs have that body.
func withAlgs(l ...[]byte) *node { return barePoint().setAlgs(slices.Concat(l...)) }

func TestP131Algs(t *testing.T) {
	points, powers := piece(6, unhex(signPoints)...), piece(6, unhex(signPowers)...)
	parses(t, "by points", withAlgs(points), signedAs(barely(), withAlgs(points)))
	want := barely()
	want.Alg = -257
	parses(t, "by powers", withAlgs(powers, null()), signedAs(want, withAlgs(powers, null())))

	for what, l := range map[string][][]byte{
		"points with NULL":           {points, null()},
		"points with INTEGER":        {points, piece(2, 5)},
		"points twice":               {points, points},
		"powers without NULL":        {powers},
		"powers with INTEGER":        {powers, piece(2, 5)},
		"powers with a sequence":     {powers, seq()},
		"powers with a NULL of body": {powers, piece(5, 0)},
		"powers and points":          {powers, points},
	} {
		refused(t, what, withAlgs(l...), api.ErrAlg)
	}
	for what, l := range map[string][][]byte{
		"nothing":               nil,
		"NULL":                  {null()},
		"NULL ahead":            {null(), powers},
		"NULL twice":            {powers, null(), null()},
		"an INTEGER":            {piece(2, 5)},
		"points in a sequence":  {seq(points)},
		"points in bytes":       {piece(4, points...)},
		"three":                 {points, null(), null()},
		"points, left over":     {points, {0}},
		"points, cut":           {points[:9]},
		"an OID of no byte":     {piece(6)},
		"an OID cut":            {piece(6, 0x2a, 0x86)},
		"an OID with 80 ahead":  {piece(6, 0x2a, 0x80, 0x01)},
		"an OID of 17 numbers":  {piece(6, make([]byte, 16)...)},
		"powers, an OID cut":    {piece(6, 0x2a, 0x86), null()},
		"a number beyond 2^63":  {piece(6, 0x2a, 0x81, 0x80, 0x80, 0x80, 0x80, 0x80, 0x80, 0x80, 0x80, 0)},
		"another, three pieces": {oidOf(1, 3, 101, 112), null(), null()},
	} {
		refused(t, what, withAlgs(l...), api.ErrCert)
	}
}

// Algs of other names, with what may stand behind them.
func TestP131OtherAlgs(t *testing.T) {
	for _, oid := range [][]uint64{
		{1, 2, 840, 10045, 4, 1}, {1, 2, 840, 10045, 4, 3}, {1, 2, 840, 10045, 4, 3, 1}, {1, 2, 840, 10045, 4, 3, 3}, {1, 2, 840, 10045, 4, 3, 4},
		{1, 2, 840, 10045, 4, 3, 2, 0}, {1, 2, 840, 10045, 2, 1}, {1, 2, 840, 10045}, {2, 2, 840, 10045, 4, 3, 2}, {1, 3, 840, 10045, 4, 3, 2},
		{1, 2, 840, 113549, 1, 1, 1}, {1, 2, 840, 113549, 1, 1, 5}, {1, 2, 840, 113549, 1, 1, 10}, {1, 2, 840, 113549, 1, 1, 12}, {1, 2, 840, 113549, 1, 1},
		{1, 2, 840, 113549, 1, 1, 11, 0}, {1, 2, 840, 113549, 2, 1, 11}, {1, 3, 101, 112}, {0, 0}, {2, 999}, {1, 2},
	} {
		for _, more := range [][]byte{nil, null(), seq(), seq(oidOf(1, 2, 3)), piece(2, 5)} {
			refused(t, fmt.Sprint("alg ", oid), withAlgs(oidOf(oid...), more), api.ErrAlg)
		}
	}
}

// An alg inside that isn't the one outside, each of them right, or of the same meaning.
func TestP131AlgsDiffer(t *testing.T) {
	algs := [][]byte{piece(6, unhex(signPoints)...), slices.Concat(piece(6, unhex(signPowers)...), null()), slices.Concat(piece(6, unhex(signPoints)...), null()), piece(6, unhex(signPowers)...), nil, {0}, oidOf(1, 3, 101, 112)}
	for inside, first := range algs {
		for outside, second := range algs {
			tree := fullPoint().set("alg", hex.EncodeToString(first)).set("outer alg", hex.EncodeToString(second))
			if inside != outside {
				refused(t, fmt.Sprintf("algs %x and %x", first, second), tree, api.ErrCert)
			}
		}
	}
	for _, body := range algs[:2] {
		for tag := range 256 {
			if tag == 0x30 {
				continue
			}
			refused(t, "the alg inside has another tag", withAlgs(body).tagged("alg", byte(tag)), api.ErrCert)
			refused(t, "the alg outside has another tag", withAlgs(body).tagged("outer alg", byte(tag)), api.ErrCert)
			refused(t, "both algs have another tag", withAlgs(body).tagged("alg", byte(tag)).tagged("outer alg", byte(tag)), api.ErrCert)
		}
	}
}

// withKind: a full certificate with bits that are right of a key of that kind, whose kind has that body.
func withKind(tree *node, l ...[]byte) *node {
	return tree.set("kind", hex.EncodeToString(slices.Concat(l...)))
}

func TestP131KeysOfOtherKinds(t *testing.T) {
	curveOid := piece(6, unhex(onSmall)...)
	for _, oid := range [][]uint64{
		{1, 2, 840, 10045, 2}, {1, 2, 840, 10045, 2, 2}, {1, 2, 840, 10045, 2, 1, 0}, {1, 2, 840, 10045, 4, 3, 2}, {1, 3, 132, 112}, {1, 2, 840, 10040, 4, 1},
		{1, 2, 840, 113549, 1, 1}, {1, 2, 840, 113549, 1, 1, 2}, {1, 2, 840, 113549, 1, 1, 10}, {1, 2, 840, 113549, 1, 1, 11}, {1, 2, 840, 113549, 1, 1, 1, 0}, {1, 3, 101, 112}, {1, 3, 132, 0}, {0, 0},
	} {
		for _, more := range [][]byte{null(), seq(), curveOid, piece(6), piece(6, 0x2a, 0x86), piece(3, 8)} {
			refused(t, fmt.Sprint("kind ", oid), withKind(fullPoint(), oidOf(oid...), more), api.ErrAlg)
			refused(t, fmt.Sprint("kind ", oid), withKind(fullPower(), oidOf(oid...), more), api.ErrAlg)
		}
		for _, more := range [][]byte{nil, {0}, {5}, slices.Concat(null(), null()), slices.Concat(curveOid, null())} {
			refused(t, fmt.Sprint("kind, not of two pieces: ", oid), withKind(fullPoint(), oidOf(oid...), more), api.ErrCert)
			refused(t, fmt.Sprint("kind, not of two pieces: ", oid), withKind(fullPower(), oidOf(oid...), more), api.ErrCert)
		}
	}
}

func TestP131Kinds(t *testing.T) {
	points, powers, curveOid := piece(6, unhex(kindPoints)...), piece(6, unhex(kindPowers)...), piece(6, unhex(onSmall)...)
	parses(t, "points", withKind(fullPoint(), points, curveOid), fully(barely(), fullPoint()))
	parses(t, "powers", withKind(fullPower(), powers, null()), fully(barelyPower(), fullPower()))
	// Bits of the other kind.
	refused(t, "points with powers' bits", withKind(fullPower(), points, curveOid), api.ErrKey)
	refused(t, "powers with a point's bits", withKind(fullPoint(), powers, null()), api.ErrKey)

	for what, l := range map[string][][]byte{
		"powers with INTEGER":        {powers, piece(2, 5)},
		"powers with a curve":        {powers, curveOid},
		"powers with no right OID":   {powers, piece(6)},
		"powers with a NULL of body": {powers, piece(5, 0)},
		"powers with a sequence":     {powers, seq()},
	} {
		refused(t, what, withKind(fullPower(), l...), api.ErrAlg)
	}
	for what, l := range map[string][][]byte{
		"nothing":             nil,
		"points alone":        {points},
		"powers alone":        {powers},
		"a curve alone":       {curveOid},
		"another alone":       {oidOf(1, 3, 101, 112)},
		"points with NULL":    {points, null()},
		"points, three":       {points, curveOid, null()},
		"points, two curves":  {points, curveOid, curveOid},
		"points in a SET":     {points, piece(0x31, curveOid...)},
		"points, explicit":    {points, seq(piece(2, 1))},
		"powers, three":       {powers, null(), null()},
		"NULL ahead":          {null(), powers},
		"an OID of no byte":   {piece(6), curveOid},
		"an OID cut":          {piece(6, 0x2a, 0x86), curveOid},
		"a curve of no byte":  {points, piece(6)},
		"a curve cut":         {points, piece(6, 0x2a, 0x86)},
		"a curve of 80 ahead": {points, piece(6, 0x2a, 0x80, 1)},
		"a curve of 17":       {points, piece(6, make([]byte, 16)...)},
		"no pieces":           {{0x06, 0x07, 0x2a}},
	} {
		refused(t, what, withKind(fullPoint(), l...), api.ErrCert)
		refused(t, what, withKind(fullPower(), l...), api.ErrCert)
	}
	for tag := range 256 {
		if tag != 0x30 {
			refused(t, "a key's tag", fullPoint().tagged("key", byte(tag)), api.ErrCert)
			refused(t, "a kind's tag", fullPower().tagged("kind", byte(tag)), api.ErrCert)
		}
	}
}

// That the second piece is a BIT STRING is asked ahead of which kind and which curve it is.
func TestP131BitsAheadOfKind(t *testing.T) {
	points, powers, curveOid := piece(6, unhex(kindPoints)...), piece(6, unhex(kindPowers)...), piece(6, unhex(onSmall)...)
	noBits := [][]byte{null(), piece(4, 0, 4, 7, 0x4b), piece(3), piece(3, 1), piece(3, 8, 4), piece(3, 1, 3), piece(3, 4, 4, 7, 0xb0), seq(), piece(0x23, 0, 4, 7, 0x4b)}
	for what, kind := range map[string][]byte{
		"another, NULL":          slices.Concat(oidOf(1, 2, 3), null()),
		"another, a curve":       slices.Concat(oidOf(1, 2, 3), curveOid),
		"another, no right OID":  slices.Concat(oidOf(1, 2, 3), piece(6)),
		"a curve, NULL":          slices.Concat(curveOid, null()),
		"powers, a curve":        slices.Concat(powers, curveOid),
		"powers, a NULL of body": slices.Concat(powers, piece(5, 0)),
		"powers, NULL":           slices.Concat(powers, null()),
		"points, NULL":           slices.Concat(points, null()),
		"points, another curve":  slices.Concat(points, oidOf(1, 2, 3)),
		"points, a curve":        slices.Concat(points, curveOid),
	} {
		for _, bits := range noBits {
			body := hex.EncodeToString(slices.Concat(seq(kind), bits))
			refused(t, fmt.Sprintf("%s, %x", what, bits), fullPoint().set("key", body), api.ErrCert)
			refused(t, fmt.Sprintf("%s, %x", what, bits), fullPower().set("key", body), api.ErrCert)
		}
	}
}

// onCurve: whether a point is on the curve, in plain numbers.
func onCurve(c api.Curve, x, y int) bool {
	p := int(c.P[0])
	return x < p && y < p && (y*y-x*x*x-int(c.A[0])*x-int(c.B[0]))%p == 0
}

// All bits that are a byte 04 and two bytes, of the curves whose numbers have one byte.
func TestP131AllPoints(t *testing.T) {
	for place, c := range three()[:2] {
		taken := 0
		for x := range 256 {
			for y := range 256 {
				tree := barePoint().set("curve oid", hex.EncodeToString(oidOf(c.Oid...)[2:])).set("point", fmt.Sprintf("00 04 %02x %02x", x, y))
				if !onCurve(c, x, y) {
					refused(t, "a point beside the curve", tree, api.ErrKey)
					continue
				}
				taken++
				want := signedAs(barely(), tree)
				want.Key = api.Key{Kind: api.KEc, Curve: place, Point: api.Point{X: limbsOf(big.NewInt(int64(x))), Y: limbsOf(big.NewInt(int64(y)))}}
				parses(t, "a point of the curve", tree, want)
			}
		}
		if taken != int(c.N[0])-1 {
			t.Errorf("%d points, not %d", taken, c.N[0]-1)
		}
	}
}

func TestP131PointBits(t *testing.T) {
	for _, body := range []string{
		"00", "00 04", "00 04 07", "00 07 4b", "00 04 07 4b 00", "00 04 00 07 4b", "00 04 00 07 00 4b", "00 04 07 4b 07 4b",
		"00 00 07 4b", "00 02 07 4b", "00 03 07", "00 05 07 4b", "00 06 07 4b", "00 84 07 4b", "00 02 07", "00 03 07 4b", "00 00",
		"00 04 07 4a", "00 04 06 4b", "00 04 07 fb", "00 04 fb 4b", "00 04 ff ff", "00 04 4b 07",
	} {
		refused(t, "bits "+body, fullPoint().set("point", body), api.ErrKey)
	}
	// (7, 176) is the other point of that X, so that bits of a right key may have some left over.
	for _, body := range []string{"", "01", "08", "08 04 07 4b", "ff 04 07 4b", "01 04 07 4b", "01 04 07 b0", "04 04 07 b0", "04 04 07 4b b0", "07 04 07 4b 80", "01 00"} {
		refused(t, "a BIT STRING of "+body, fullPoint().set("point", body), api.ErrCert)
	}
	tree := fullPoint().set("point", "00 04 07 b0")
	want := fully(barely(), tree)
	want.Key.Point.Y = api.Nat{176}
	parses(t, "the other point", tree, want)
}

// powersOf: a certificate with a key of that modulus and exponent.
func powersOf(n, e *big.Int) *node {
	return barePower().put("n", whole("n", integer(n))).put("e", whole("e", integer(e)))
}

// What rsa.Check takes, and what it doesn't: N odd, of 62 to 256 bytes, E odd, from 3 on and below N.
func TestP131Powers(t *testing.T) {
	least, most := plus(twoTo(488), 1), plus(twoTo(2048), -1)
	for _, k := range []struct {
		n, e *big.Int
		want api.Errno
	}{
		{least, big.NewInt(3), api.OK},
		{most, big.NewInt(3), api.OK},
		{most, big.NewInt(65537), api.OK},
		{least, plus(least, -2), api.OK},
		{most, plus(twoTo(2040), 1), api.OK},
		{plus(twoTo(488), -1), big.NewInt(3), api.ErrKey},
		{plus(twoTo(2048), 1), big.NewInt(3), api.ErrKey},
		{plus(least, 1), big.NewInt(3), api.ErrKey},
		{plus(most, -1), big.NewInt(3), api.ErrKey},
		{least, big.NewInt(0), api.ErrKey},
		{least, big.NewInt(1), api.ErrKey},
		{least, big.NewInt(2), api.ErrKey},
		{least, big.NewInt(4), api.ErrKey},
		{least, least, api.ErrKey},
		{least, plus(least, 2), api.ErrKey},
		{least, most, api.ErrKey},
		{big.NewInt(0), big.NewInt(3), api.ErrKey},
		{big.NewInt(3), big.NewInt(3), api.ErrKey},
		{plus(twoTo(4096), -1), big.NewInt(3), api.ErrKey},
		{twoTo(4096), big.NewInt(3), api.ErrKey},
		{least, twoTo(4097), api.ErrKey},
	} {
		tree := powersOf(k.n, k.e)
		want := barelyPower()
		want.Key.Rsa = api.RsaKey{N: limbsOf(k.n), E: limbsOf(k.e)}
		answers(t, fmt.Sprintf("powers %.20x, %x", k.n, k.e), tree, want, k.want)
	}
}

func TestP131PowerBits(t *testing.T) {
	n, e := integer(modulus()), piece(2, 3)
	bare := n[2:]
	for what, bits := range map[string][]byte{
		"nothing":               nil,
		"the numbers bare":      slices.Concat(n, e),
		"a SET":                 piece(0x31, slices.Concat(n, e)...),
		"no number":             seq(),
		"one number":            seq(n),
		"three numbers":         seq(n, e, e),
		"left over":             slices.Concat(seq(n, e), []byte{0}),
		"a piece left over":     slices.Concat(seq(n, e), null()),
		"cut":                   seq(n, e)[:60],
		"no piece within":       seq(n, e, []byte{2}),
		"the other way round":   seq(e, n),
		"N below 0":             seq(piece(2, append([]byte{0xff}, bare...)...), e),
		"N with a 0 ahead":      seq(piece(2, append([]byte{0}, bare...)...), e),
		"E with a 0 ahead":      seq(n, piece(2, 0, 3)),
		"E below 0":             seq(n, piece(2, 0xfd)),
		"E of no byte":          seq(n, piece(2)),
		"N as bytes":            seq(piece(4, bare...), e),
		"E as bytes":            seq(n, piece(4, 3)),
		"a key that is private": seq(piece(2, 0), n, e),
		"within a sequence":     seq(seq(n, e)),
		"as bytes":              piece(4, seq(n, e)...),
	} {
		tree := fullPower().set("powers", "00"+hex.EncodeToString(bits))
		refused(t, what, tree, api.ErrKey)
	}
	// A right key whose last bit is 0 (E of 6 is none, so it is refused by the bits alone where they are looked at first).
	for _, left := range []string{"01", "08", "ff"} {
		refused(t, "bits left over", fullPower().set("powers", left+hex.EncodeToString(seq(n, piece(2, 6)))), api.ErrCert)
	}
	refused(t, "no byte at all", fullPower().set("powers", ""), api.ErrCert)
	refused(t, "bits that are set, and left over", fullPower().set("powers", "01"+hex.EncodeToString(seq(n, e))), api.ErrCert)
}
