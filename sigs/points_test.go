package sigs_test

import (
	library "crypto/ecdsa"
	"crypto/elliptic"
	"crypto/sha256"
	"math/big"
	"slices"
	"testing"

	"latchkey/api"
	"latchkey/sigs"
)

func TestP122RightSignaturesByPoints(t *testing.T) {
	for _, s := range signers() {
		for _, msg := range messages() {
			verifies(t, "a right signature", three(), s.key(), msg, s.sign(msg), api.OK)
		}
	}
}

// RFC 6979's signatures (A.2.5), of the messages "sample" and "test".
func TestP122TheSignaturesOfRfc6979(t *testing.T) {
	curves := []api.Curve{p256()}
	k := pointKey(0, &spot{
		hexInt("60fed4ba255a9d31c961eb74c6356d68c049b8923b61fa6ce669622e60f29fb6"),
		hexInt("7903fe1008b8bc99a41ae9e95628bc64f2f1b20c2d7e9f5177a3c294d4462299"),
	})
	if q := onP256().key(); !slices.Equal(q.Point.X, k.Point.X) || !slices.Equal(q.Point.Y, k.Point.Y) {
		t.Error("the key of the tests is another one")
	}
	sample := unhex("30 46 02 21 00 efd48b2aacb6a8fd1140dd9cd45e81d69d2c877b56aaf991c34d0ea84eaf3716 02 21 00 f7cb1c942d657c41d436c7a1b6e29f65f3e900dbb9aff4064dc4ab2f843acda8")
	test := unhex("30 45 02 21 00 f1abb023518351cd71d881567b1ea663ed3efcf6c5132b354f28d3b0b7d38367 02 20 019f4113742a2b14bd25926b49c649155f267e60d3814b4c0cc84250e46f0083")
	verifies(t, "sample", curves, k, []byte("sample"), sample, api.OK)
	verifies(t, "test", curves, k, []byte("test"), test, api.OK)
	verifies(t, "test with sample's", curves, k, []byte("test"), sample, api.ErrSig)
	verifies(t, "sample with test's", curves, k, []byte("sample"), test, api.ErrSig)
}

// Signatures that OpenSSL 3.0 made (openssl dgst -sha256 -sign).
func TestP122PointSignaturesThatOthersMade(t *testing.T) {
	k := pointKey(0, &spot{
		hexInt("23722a0d48961e0d6174166ab54afd4b0a12c57ff1106545a858e1956d8fe89a"),
		hexInt("213960669a8779eef37d5585fe4b756b6a063eb9575b31ed7aa7969fa39958e4"),
	})
	forms := []string{
		"30460221009e7e396c01bcaf33bfd5d906f208a08c7cd78314fb55a681e8da1009f6b064bf022100f131356c117c7fec8c8979f3f4629e413d3bf78b08f6ed38bae53167baf47467",
		"3044022024be6d121842684eac1836eea1bfec5246f1284c27e989f40573df71f4edfbbc022025312e255c037198d6088ac9f3d50f849afb0d690eb076a2023f0a8a7cf034cc",
		"304502210099f76ab7907ee48ad814c6b65a7a521f81b0387a49287dbcb00ea02b647c3b4e022069e29cf81294cff9ea6d26c51cb16af4f053b596b61dfbddc3295bd2f3b3ea0e",
	}
	othersMade(t, []api.Curve{p256()}, k, forms)
}

// signedByOthers: the messages that OpenSSL signed: no bytes, a few, and 300.
func signedByOthers() [][]byte {
	long := make([]byte, 300)
	for at := range long {
		long[at] = byte(7 * at)
	}
	return [][]byte{nil, []byte("latchkey"), long}
}

// othersMade: each of those messages' signatures, in their order, is right with its own message alone.
func othersMade(t *testing.T, curves []api.Curve, k api.Key, forms []string) {
	t.Helper()
	for at, msg := range signedByOthers() {
		for from, form := range forms {
			want := api.ErrSig
			if from == at {
				want = api.OK
			}
			verifies(t, "OpenSSL's", curves, k, msg, unhex(form), want)
		}
	}
}

// asTheLibrary: the library judges the signature so too.
func asTheLibrary(t *testing.T, what string, q *spot, msg, sig []byte, want api.Errno) {
	t.Helper()
	hash := sha256.Sum256(msg)
	key := library.PublicKey{Curve: elliptic.P256(), X: q.x, Y: q.y}
	if library.VerifyASN1(&key, hash[:], sig) != (want == api.OK) {
		t.Errorf("%s: the library doesn't say %d", what, want)
	}
	verifies(t, what, three(), pointKey(2, q), msg, sig, want)
}

func TestP122AsTheLibrary(t *testing.T) {
	s, msg := onP256(), messages()[12]
	q, n := s.spot(), s.field().n
	stranger := signer{2, plus(s.secret, 1)}.spot()
	opposite := &spot{q.x, new(big.Int).Sub(s.field().p, q.y)}
	for draw := range int64(3) {
		r, second := s.numbers(msg, 1000+draw)
		sig := formOf(r, second)
		asTheLibrary(t, "a right signature", q, msg, sig, api.OK)
		asTheLibrary(t, "the opposite s", q, msg, formOf(r, new(big.Int).Sub(n, second)), api.OK)
		asTheLibrary(t, "another message", q, msg[1:], sig, api.ErrSig)
		asTheLibrary(t, "another key", stranger, msg, sig, api.ErrSig)
		asTheLibrary(t, "the opposite key", opposite, msg, sig, api.ErrSig)
		asTheLibrary(t, "r and s changed over", q, msg, formOf(second, r), api.ErrSig)
		asTheLibrary(t, "an r of 0", q, msg, formOf(new(big.Int), second), api.ErrSig)
		asTheLibrary(t, "an s of 0", q, msg, formOf(r, new(big.Int)), api.ErrSig)
		asTheLibrary(t, "an r of N more", q, msg, formOf(new(big.Int).Add(r, n), second), api.ErrSig)
		asTheLibrary(t, "an s of N more", q, msg, formOf(r, new(big.Int).Add(second, n)), api.ErrSig)
		asTheLibrary(t, "something behind", q, msg, append(sig, 0), api.ErrSig)
		asTheLibrary(t, "a 00 ahead of s", q, msg, seq(integer(r), piece(2, append([]byte{0, 0}, second.Bytes()...)...)), api.ErrSig)
		asTheLibrary(t, "a 00 ahead of r", q, msg, seq(piece(2, append([]byte{0, 0}, r.Bytes()...)...), integer(second)), api.ErrSig)
	}
}

// On the least curve: all keys, all r and s from 0 on to above N.
func TestP122AllSignaturesOnTheLeastCurve(t *testing.T) {
	curves, f, right := three(), fieldOf(least()), 0
	for _, msg := range messages()[1:4] {
		for k := int64(1); k < 19; k++ {
			q := f.mul(big.NewInt(k), f.g)
			for r := range int64(21) {
				for s := range int64(21) {
					first, second := big.NewInt(r), big.NewInt(s)
					want := api.ErrSig
					if f.holds(q, msg, first, second) {
						want = api.OK
						right++
					}
					verifies(t, "one of all", curves, pointKey(0, q), msg, formOf(first, second), want)
				}
			}
		}
	}
	if right < 500 {
		t.Errorf("only %d are right", right)
	}
}

// A bit turned at each place: on P-256 no such signature is right.
func TestP122ABitTurnedOnP256(t *testing.T) {
	s, msg := onP256(), []byte("latchkey")
	curves, k, sig := three(), s.key(), s.sign(msg)
	atOnce(8*len(sig), func(bit int) {
		other := slices.Clone(sig)
		other[bit/8] ^= 1 << (bit % 8)
		if got := sigs.Verify(curves, k, msg, other); got != api.ErrSig {
			t.Errorf("bit %d turned: %d", bit, got)
		}
	})
	verifies(t, "no bit turned", curves, k, msg, sig, api.OK)
}

// The same on the small curves, where a signature beside a right one may be right as well.
func TestP122EachByteMadeAnotherOnSmallCurves(t *testing.T) {
	for _, s := range signers()[:2] {
		f, msg, refused := s.field(), []byte("latchkey"), 0
		sig := s.sign(msg)
		for place, was := range sig {
			for b := range 256 {
				sig[place] = byte(b)
				want := api.ErrSig
				if first, second, ok := judge(sig); ok && f.holds(s.spot(), msg, first, second) {
					want = api.OK
				} else {
					refused++
				}
				verifies(t, "a byte made another", three(), s.key(), msg, sig, want)
			}
			sig[place] = was
		}
		if refused < 200*len(sig) {
			t.Errorf("only %d are refused", refused)
		}
	}
}

// What isn't a Pair signs nothing, though its numbers would be right.
func TestP122PairsThatAreNone(t *testing.T) {
	msg := messages()[9]
	for _, s := range signers() {
		r, second := s.numbers(msg, 77)
		first, last := integer(r), integer(second)
		verifies(t, "the pair", three(), s.key(), msg, seq(first, last), api.OK)
		bare := slices.Concat(r.FillBytes(make([]byte, 32)), second.FillBytes(make([]byte, 32)))
		for what, sig := range map[string][]byte{
			"none":                         nil,
			"no bytes":                     {},
			"an empty sequence":            seq(),
			"r alone":                      seq(first),
			"s alone":                      seq(last),
			"a third number":               seq(first, last, last),
			"a null behind":                seq(first, last, piece(5)),
			"a null ahead":                 seq(piece(5), first, last),
			"the numbers without sequence": slices.Concat(first, last),
			"a set":                        piece(0x31, slices.Concat(first, last)...),
			"a byte behind":                append(seq(first, last), 0),
			"twice":                        append(seq(first, last), seq(first, last)...),
			"a byte less":                  seq(first, last)[:len(first)+len(last)+1],
			"in a sequence":                seq(seq(first, last)),
			"in a bit string":              piece(3, append([]byte{0}, seq(first, last)...)...),
			"a 00 ahead of r":              seq(piece(2, append([]byte{0, 0}, r.Bytes()...)...), last),
			"a 00 ahead of s":              seq(first, piece(2, append([]byte{0, 0}, second.Bytes()...)...)),
			"octets as r":                  seq(piece(4, first[2:]...), last),
			"octets as s":                  seq(first, piece(4, last[2:]...)),
			"the numbers' bytes":           bare,
			"many bytes":                   make([]byte, 4096),
			"more bytes":                   make([]byte, 4097),
			"very many bytes":              bytesOf(seq(first, last), 70000),
		} {
			verifies(t, what, three(), s.key(), msg, sig, api.ErrSig)
		}
	}
}

// bytesOf: bytes and zeros behind them, so many in all.
func bytesOf(b []byte, size int) []byte { return append(b, make([]byte, size-len(b))...) }

// Another message isn't signed: a bit of it turned, a byte more, a byte less, its hash in its place.
func TestP122OtherMessages(t *testing.T) {
	s := onP256()
	curves, k := three(), s.key()
	msgs := messages()
	long := msgs[len(msgs)-1]
	for _, msg := range [][]byte{{}, []byte("a"), long[:64], long[:333]} {
		sig, hash := s.sign(msg), sha256.Sum256(msg)
		others := [][]byte{append(slices.Clone(msg), 0), append([]byte{0}, msg...), hash[:], append(slices.Clone(msg), msg...), []byte("another")}
		for at := range msg {
			if at > 3 && at%29 != 0 && at < len(msg)-2 {
				continue
			}
			other := slices.Clone(msg)
			other[at] ^= 1 << (at % 8)
			others = append(others, other)
		}
		if len(msg) > 0 {
			others = append(others, msg[1:], msg[:len(msg)-1], nil)
		}
		atOnce(len(others), func(at int) {
			if string(others[at]) == string(msg) {
				return
			}
			if got := sigs.Verify(curves, k, others[at], sig); got != api.ErrSig {
				t.Errorf("%.40x with the signature of %.40x: %d", others[at], msg, got)
			}
		})
		// The hash's own signature isn't one of the message, which is hashed just once.
		hashed := s.sign(hash[:])
		verifies(t, "the hash's signature", curves, k, msg, hashed, api.ErrSig)
		verifies(t, "the hash with its signature", curves, k, hash[:], hashed, api.OK)
	}
}

// The key of another secret, the opposite one, numbers that are no point, and nothing.
func TestP122OtherPoints(t *testing.T) {
	for _, s := range signers() {
		msg := messages()[8]
		f, q, sig := s.field(), s.spot(), s.sign(msg)
		first, second := s.numbers(msg, 5)
		for secret := int64(1); secret < 18; secret++ {
			p := f.mul(big.NewInt(secret), f.g)
			want := api.ErrSig
			if f.holds(p, msg, first, second) {
				want = api.OK
			}
			verifies(t, "a key of another secret", three(), pointKey(s.place, p), msg, sig, want)
		}
		nothing := s.key()
		nothing.Point.Inf = true
		verifies(t, "a key that is nothing", three(), nothing, msg, sig, api.ErrSig)
		verifies(t, "no numbers", three(), api.Key{Kind: api.KEc, Curve: s.place, Point: api.Point{Inf: true}}, msg, sig, api.ErrSig)
		verifies(t, "a key of zeros", three(), api.Key{Kind: api.KEc, Curve: s.place}, msg, sig, api.ErrSig)
		for _, p := range []*spot{{q.y, q.x}, {plus(q.x, 1), q.y}, {q.x, plus(q.y, 1)}, {new(big.Int).Add(q.x, f.p), q.y}, {q.x, new(big.Int).Add(q.y, f.p)}, {twoTo(5000), q.y}, {q.x, twoTo(5000)}} {
			verifies(t, "a key that is no point", three(), pointKey(s.place, p), msg, sig, api.ErrSig)
		}
	}
}
