package cert_test

import (
	"bytes"
	"encoding/base64"
	"encoding/hex"
	"fmt"
	"math/big"
	"slices"
	"strings"
	"testing"

	"latchkey/api"
	"latchkey/cert"
	"latchkey/curve"
)

// unhex: bytes that are written in base sixteen, with blanks between them.
func unhex(s string) []byte {
	b, err := hex.DecodeString(strings.ReplaceAll(s, " ", ""))
	if err != nil {
		panic(err)
	}
	return b
}

// unbase: bytes that are written as a text of 64 signs.
func unbase(s string) []byte {
	b, err := base64.StdEncoding.DecodeString(s)
	if err != nil {
		panic(err)
	}
	return b
}

func hexInt(s string) *big.Int { return new(big.Int).SetBytes(unhex(s)) }

// plus: a number and a small one, which may be below 0.
func plus(a *big.Int, b int64) *big.Int { return new(big.Int).Add(a, big.NewInt(b)) }

// twoTo: 2, so many times multiplied.
func twoTo(times uint) *big.Int { return new(big.Int).Lsh(big.NewInt(1), times) }

// limbsOf: the limbs of a number of the library's.
func limbsOf(n *big.Int) api.Nat {
	var out api.Nat
	mask := new(big.Int).SetUint64(1<<64 - 1)
	for left := new(big.Int).Set(n); left.Sign() > 0; left.Rsh(left, 64) {
		out = append(out, new(big.Int).And(left, mask).Uint64())
	}
	return out
}

// small: the chapters' curve.
func small() api.Curve {
	return api.Curve{Alg: -7, Crv: 1, Oid: []uint64{1, 3, 132, 0}, P: api.Nat{251}, A: api.Nat{1}, B: api.Nat{4}, Gx: api.Nat{7}, Gy: api.Nat{75}, N: api.Nat{271}}
}

// least: a curve of few points.
func least() api.Curve {
	return api.Curve{Alg: -35, Crv: 2, Oid: []uint64{1, 3, 132, 1}, P: api.Nat{17}, A: api.Nat{2}, B: api.Nat{2}, Gx: api.Nat{5}, Gy: api.Nat{1}, N: api.Nat{19}}
}

// p256: the curve that NIST names P-256 (FIPS 186-4, D.1.2.3), with the numbers by which it is named.
func p256() api.Curve {
	return api.Curve{
		Alg: -7, Crv: 1, Oid: []uint64{1, 2, 840, 10045, 3, 1, 7},
		P:  limbsOf(hexInt("ffffffff00000001000000000000000000000000ffffffffffffffffffffffff")),
		A:  limbsOf(hexInt("ffffffff00000001000000000000000000000000fffffffffffffffffffffffc")),
		B:  limbsOf(hexInt("5ac635d8aa3a93e7b3ebbd55769886bc651d06b0cc53b0f63bce3c3e27d2604b")),
		Gx: limbsOf(hexInt("6b17d1f2e12c4247f8bce6e563a440f277037d812deb33a0f4a13945d898c296")),
		Gy: limbsOf(hexInt("4fe342e2fe1a7f9b8ee7eb4a7c0f9e162bce33576b315ececbb6406837bf51f5")),
		N:  limbsOf(hexInt("ffffffff00000000ffffffffffffffffbce6faada7179e84f3b9cac2fc632551")),
	}
}

// three: curves in whose places keys stand.
func three() []api.Curve { return []api.Curve{least(), small(), p256()} }

// The curves of these tests are such as may be handed in (R9).
func TestCurvesAreRight(t *testing.T) {
	for _, c := range three() {
		if err := curve.Check(c); err != api.OK {
			t.Errorf("Check(%v): %d", c, err)
		}
	}
}

// piece: the bytes of a piece of DER, as chapter 10 writes it.
func piece(tag byte, body ...byte) []byte {
	size := len(body)
	length := []byte{byte(size)}
	switch {
	case size > 255:
		length = []byte{0x82, byte(size / 256), byte(size % 256)}
	case size > 127:
		length = []byte{0x81, byte(size)}
	}
	return slices.Concat([]byte{tag}, length, body)
}

// seq: a sequence of pieces.
func seq(pieces ...[]byte) []byte { return piece(0x30, slices.Concat(pieces...)...) }

// integer: the piece of a number: as few bytes as may be, the first one below 80.
func integer(n *big.Int) []byte {
	b := n.Bytes()
	if len(b) == 0 || b[0] >= 0x80 {
		b = append([]byte{0}, b...)
	}
	return piece(2, b...)
}

// oidOf: the piece of an OID.
func oidOf(numbers ...uint64) []byte {
	row := func(n uint64) []byte {
		out := []byte{byte(n % 128)}
		for n /= 128; n > 0; n /= 128 {
			out = slices.Concat([]byte{byte(128 + n%128)}, out)
		}
		return out
	}
	body := row(40*numbers[0] + numbers[1])
	for _, n := range numbers[2:] {
		body = append(body, row(n)...)
	}
	return piece(6, body...)
}

// node: a piece with a name, by which tests find it: bytes, then pieces within it.
type node struct {
	name string
	tag  byte
	head []byte
	kids []*node
}

// leaf: a node of bytes that are written in base sixteen.
func leaf(name string, tag byte, body string) *node {
	return &node{name: name, tag: tag, head: unhex(body)}
}

// group: a node of nodes.
func group(name string, tag byte, kids ...*node) *node {
	return &node{name: name, tag: tag, kids: kids}
}

// whole: a node that is those bytes.
func whole(name string, b []byte) *node {
	return &node{name: name, tag: b[0], head: b[len(b)-bodySize(b):]}
}

// bodySize: how many bytes the body of the piece has.
func bodySize(b []byte) int {
	switch b[1] {
	case 0x81:
		return len(b) - 3
	case 0x82:
		return len(b) - 4
	}
	return len(b) - 2
}

// form: the node's bytes.
func (n *node) form() []byte {
	body := slices.Clone(n.head)
	for _, kid := range n.kids {
		body = append(body, kid.form()...)
	}
	return piece(n.tag, body...)
}

// all: the node and those within it, in their order.
func (n *node) all() []*node {
	out := []*node{n}
	for _, kid := range n.kids {
		out = append(out, kid.all()...)
	}
	return out
}

// at: the node of that name.
func (n *node) at(name string) *node {
	for _, one := range n.all() {
		if one.name == name {
			return one
		}
	}
	panic("no node " + name)
}

// place: in which node one stands, and where.
func (n *node) place(name string) (*node, int) {
	for _, one := range n.all() {
		for at, kid := range one.kids {
			if kid.name == name {
				return one, at
			}
		}
	}
	panic("no node has " + name)
}

// put: other nodes stand where that one stood.
func (n *node) put(name string, others ...*node) *node {
	parent, at := n.place(name)
	parent.kids = slices.Concat(parent.kids[:at], others, parent.kids[at+1:])
	return n
}

// set: the node has that body, which is written in base sixteen.
func (n *node) set(name, body string) *node {
	one := n.at(name)
	one.head, one.kids = unhex(body), nil
	return n
}

// tagged: the node has that tag.
func (n *node) tagged(name string, tag byte) *node {
	n.at(name).tag = tag
	return n
}

// add: the node has one more within it, behind the others.
func (n *node) add(name string, kid *node) *node {
	one := n.at(name)
	one.kids = append(one.kids, kid)
	return n
}

// setAlgs: both algs have that body.
func (n *node) setAlgs(body []byte) *node {
	for _, name := range []string{"alg", "outer alg"} {
		one := n.at(name)
		one.head, one.kids = body, nil
	}
	return n
}

// The OIDs that the chapter names, as their pieces' bodies.
const (
	signPoints = "2a 86 48 ce 3d 04 03 02"
	signPowers = "2a 86 48 86 f7 0d 01 01 0b"
	kindPoints = "2a 86 48 ce 3d 02 01"
	kindPowers = "2a 86 48 86 f7 0d 01 01 01"
	onSmall    = "2b 81 04 00"
	forCa      = "55 1d 13"
	forUse     = "55 1d 0f"
	forModel   = "2b 06 01 04 01 82 e5 1c 01 01 04"
	forOthers  = "55 1d 11"
)

// model: an authenticator's.
const model = "f8 a0 11 f3 8c 0a 4d 15 80 06 17 11 1f 9e dc 7d"

// bare: a certificate without extensions, of that alg and key.
func bare(key *node, algOf func(name string) *node) *node {
	return group("certificate", 0x30,
		group("body", 0x30,
			group("version", 0xa0, leaf("two", 2, "02")),
			leaf("number", 2, "05"),
			algOf("alg"),
			leaf("issuer", 0x30, "0c 01 61"),
			group("times", 0x30,
				leaf("from", 0x17, hex.EncodeToString([]byte("700102000000Z"))),
				leaf("to", 0x17, hex.EncodeToString([]byte("700120000000Z")))),
			leaf("subject", 0x30, "0c 02 62 63"),
			key),
		algOf("outer alg"),
		leaf("sig", 3, "00 30 06 02 01 05 02 01 09"))
}

// pointAlg: by points.
func pointAlg(name string) *node { return group(name, 0x30, leaf(name+" oid", 6, signPoints)) }

// powerAlg: by powers.
func powerAlg(name string) *node {
	return group(name, 0x30, leaf(name+" oid", 6, signPowers), leaf(name+" null", 5, ""))
}

// pointKey: the chapters' curve's point.
func pointKey() *node {
	return group("key", 0x30,
		group("kind", 0x30, leaf("kind oid", 6, kindPoints), leaf("curve oid", 6, onSmall)),
		leaf("point", 3, "00 04 07 4b"))
}

// modulus: the least number of 62 bytes that is a key's; no prime is asked for.
func modulus() *big.Int { return plus(twoTo(488), 1) }

// powerKey: a modulus and an exponent.
func powerKey() *node {
	n, e := whole("n", integer(modulus())), leaf("e", 2, "03")
	return group("key", 0x30,
		group("kind", 0x30, leaf("kind oid", 6, kindPowers), leaf("kind null", 5, "")),
		&node{name: "powers", tag: 3, head: []byte{0}, kids: []*node{group("numbers", 0x30, n, e)}})
}

// ext: an extension of that OID, whose octets are those nodes; critical or not.
func ext(name, oid string, critical bool, kids ...*node) *node {
	out := group(name, 0x30, leaf(name+" oid", 6, oid))
	if critical {
		out.kids = append(out.kids, leaf(name+" critical", 1, "ff"))
	}
	out.kids = append(out.kids, group(name+" octets", 4, kids...))
	return out
}

// caExt, useExt, modelExt and otherExt: right extensions.
func caExt() *node {
	return ext("ca", forCa, true, group("ca list", 0x30, leaf("ca true", 1, "ff"), leaf("path", 2, "03")))
}
func useExt() *node   { return ext("use", forUse, true, leaf("use bits", 3, "02 04")) }
func modelExt() *node { return ext("model", forModel, false, leaf("model bytes", 4, model)) }
func otherExt() *node { return ext("other", forOthers, false, leaf("other list", 0x30, "0c 01 64")) }

// having: the certificate with those extensions.
func (n *node) having(exts ...*node) *node {
	return n.add("body", group("exts", 0xa3, group("ext list", 0x30, exts...)))
}

// barePoint and barePower: certificates of each kind without extensions.
func barePoint() *node { return bare(pointKey(), pointAlg) }
func barePower() *node { return bare(powerKey(), powerAlg) }

// fullPoint and fullPower: the same with all extensions.
func fullPoint() *node { return barePoint().having(caExt(), useExt(), modelExt(), otherExt()) }
func fullPower() *node { return barePower().having(otherExt(), modelExt(), useExt(), caExt()) }

// smallKey: what the key of pointKey is, on the curve of place 1 of three.
func smallKey() api.Key {
	return api.Key{Kind: api.KEc, Curve: 1, Point: api.Point{X: api.Nat{7}, Y: api.Nat{75}}}
}

// lowKey: what the key of powerKey is.
func lowKey() api.Key {
	return api.Key{Kind: api.KRsa, Rsa: api.RsaKey{N: limbsOf(modulus()), E: api.Nat{3}}}
}

// barely: what barePoint is.
func barely() api.Cert {
	return api.Cert{
		Signed: barePoint().at("body").form(),
		Issuer: unhex("0c 01 61"), Subject: unhex("0c 02 62 63"),
		From: 86400, To: 19 * 86400,
		Key: smallKey(), Path: -1, Sig: unhex("30 06 02 01 05 02 01 09"),
	}
}

// barelyPower: what barePower is.
func barelyPower() api.Cert {
	c := barely()
	c.Signed, c.Key, c.Alg = barePower().at("body").form(), lowKey(), -257
	return c
}

// signedAs: the same certificate with that tree's body as what is signed.
func signedAs(c api.Cert, tree *node) api.Cert {
	c.Signed = tree.at("body").form()
	return c
}

// fully: a bare certificate with all extensions.
func fully(c api.Cert, tree *node) api.Cert {
	c.Ca, c.Sign, c.Path, c.Model = true, true, 3, unhex(model)
	return signedAs(c, tree)
}

// sameKey: whether two keys are alike, by their limbs.
func sameKey(a, b api.Key) bool {
	return a.Kind == b.Kind && a.Curve == b.Curve && a.Point.Inf == b.Point.Inf &&
		slices.Equal(a.Point.X, b.Point.X) && slices.Equal(a.Point.Y, b.Point.Y) &&
		slices.Equal(a.Rsa.N, b.Rsa.N) && slices.Equal(a.Rsa.E, b.Rsa.E)
}

// same: whether two certificates are alike.
func same(a, b api.Cert) bool {
	for _, pair := range [][2][]byte{{a.Signed, b.Signed}, {a.Issuer, b.Issuer}, {a.Subject, b.Subject}, {a.Model, b.Model}, {a.Sig, b.Sig}} {
		if !bytes.Equal(pair[0], pair[1]) {
			return false
		}
	}
	return sameKey(a.Key, b.Key) && a.From == b.From && a.To == b.To && a.Ca == b.Ca && a.Sign == b.Sign && a.Path == b.Path && a.Alg == b.Alg
}

// shown: a certificate as a test tells it.
func shown(c api.Cert) string {
	return fmt.Sprintf("(signed %x, names %x and %x, from %d to %d, key %v, ca %v, sign %v, path %d, model %x, alg %d, sig %x)",
		c.Signed, c.Issuer, c.Subject, c.From, c.To, c.Key, c.Ca, c.Sign, c.Path, c.Model, c.Alg, c.Sig)
}

// parsesOn: the bytes are just that certificate, with those curves.
func parsesOn(t *testing.T, what string, b []byte, curves []api.Curve, want api.Cert) {
	t.Helper()
	got, err := cert.Parse(b, curves)
	if err != api.OK || !same(got, want) {
		t.Errorf("%s: %s, error %d; not %s, no error (of %x)", what, shown(got), err, shown(want), b)
	}
}

// refusedOn: the bytes are refused by that error, and nothing is told beside it.
func refusedOn(t *testing.T, what string, b []byte, curves []api.Curve, want api.Errno) {
	t.Helper()
	got, err := cert.Parse(b, curves)
	if err != want || !same(got, api.Cert{}) {
		t.Errorf("%s: %s, error %d; not error %d (of %x)", what, shown(got), err, want, b)
	}
}

// parses: parsesOn of a tree, with three curves.
func parses(t *testing.T, what string, tree *node, want api.Cert) {
	t.Helper()
	parsesOn(t, what, tree.form(), three(), want)
}

// refused: refusedOn of a tree, with three curves.
func refused(t *testing.T, what string, tree *node, want api.Errno) {
	t.Helper()
	refusedOn(t, what, tree.form(), three(), want)
}

// answers: either of both; what is signed is the tree's body.
func answers(t *testing.T, what string, tree *node, want api.Cert, err api.Errno) {
	t.Helper()
	if err == api.OK {
		parses(t, what, tree, signedAs(want, tree))
	} else {
		refused(t, what, tree, err)
	}
}
