package sigs_test

import (
	"crypto"
	library "crypto/rsa"
	"crypto/sha256"
	"math/big"
	"slices"
	"testing"

	"latchkey/api"
	"latchkey/sigs"
)

func TestP122RightSignaturesByPowers(t *testing.T) {
	for _, s := range []secret{low(), great()} {
		for _, msg := range messages() {
			verifies(t, "a right signature", three(), s.key(), msg, s.sign(msg), api.OK)
		}
	}
}

// Signatures that OpenSSL 3.0 made (openssl dgst -sha256 -sign), with E 65537.
func TestP122PowerSignaturesThatOthersMade(t *testing.T) {
	n := hexInt("a9ba2b4328f757b16ac709a09a48c29e557d19873e1009cead28083eb4f15ee3c2b9504026abd3b28001aaeb49ea5a0eb6fe8f344cd5d16ac661af36f757d98755840838ec5fb96969962f88f6f8aa903edf5b935d59a48e7510bb8fadaf283a2d4730ecfd74d4d14b224dfd0f27980369c656c38287257fa99321bb18e42c63")
	k := secret{n: n, e: big.NewInt(65537)}.key()
	forms := []string{
		"0be0e439f78b86885055730e30be5c8a86052f9ef763d20dceeda973b0453fdf6ede395f457556d314acdc0e0595c330337339068b8ce9c1ed6904b064df9497c470974b099f00850026481f31b4cb613a01e75cec42a6504b9d9e2398ac67bcb9ff7388523260511077af2d874830fe714c3015bed2750c32ccd36b876c45f4",
		"6565a8f807f72b264fdb3ecc4fc2b6d3443fcf2ddbfa96916c6381cbde34f1935e1b20c4e75919d8c1daf3ecf4e0e9adacd3fff8523bf6caa0aa316a85de73cdb05549052029fef8be8e3bf8025b2d1bb3ba40d3393ec0c7348b4f45c5293cc961799485ae4738613a33e54a1f6e9ad1003402a09ef8871d191f809e58252d20",
		"909698f3000f7217a9427d28a348c15776d8cae73e663db17bed028a0576a1fdc47661ce817a783d266cf9c300451c093d1f8f2fb640bff450e37d45e0baea6111bbc48e4ab0895ada5c32f070d94dd8736a4c6d92aea18940b7f1cef4bd0f659cd8913585c56fdea2911540aa406ed2509997ec926d6443c350ef93412cc132",
	}
	othersMade(t, three(), k, forms)
}

// The library judges so too; it takes only moduli of 1024 bits and more.
func TestP122PowersAsTheLibrary(t *testing.T) {
	s, msg := great(), messages()[13]
	sig := s.sign(msg)
	turned := slices.Clone(sig)
	turned[100] ^= 4
	key := library.PublicKey{N: s.n, E: int(s.e.Int64())}
	for _, one := range []struct {
		what     string
		msg, sig []byte
		want     api.Errno
	}{
		{"a right signature", msg, sig, api.OK},
		{"another message", msg[1:], sig, api.ErrSig},
		{"no message", nil, sig, api.ErrSig},
		{"a bit turned", msg, turned, api.ErrSig},
		{"a byte less", msg, sig[1:], api.ErrSig},
		{"a byte more", msg, append([]byte{0}, sig...), api.ErrSig},
		{"none", msg, nil, api.ErrSig},
	} {
		hash := sha256.Sum256(one.msg)
		if err := library.VerifyPKCS1v15(&key, crypto.SHA256, hash[:], one.sig); (err == nil) != (one.want == api.OK) {
			t.Errorf("%s: the library says %v", one.what, err)
		}
		verifies(t, one.what, three(), s.key(), one.msg, one.sig, one.want)
	}
}

// A bit turned at each place, and other lengths.
func TestP122ABitTurnedInAPower(t *testing.T) {
	s, msg := low(), []byte("latchkey")
	sig := s.sign(msg)
	for bit := range 8 * len(sig) {
		other := slices.Clone(sig)
		other[bit/8] ^= 1 << (bit % 8)
		verifies(t, "a bit turned", three(), s.key(), msg, other, api.ErrSig)
	}
	for size := range sig {
		verifies(t, "bytes that are cut off", three(), s.key(), msg, sig[:size], api.ErrSig)
		verifies(t, "bytes that are cut off ahead", three(), s.key(), msg, sig[size+1:], api.ErrSig)
	}
	more := new(big.Int).Add(new(big.Int).SetBytes(sig), s.n).Bytes()
	for _, other := range [][]byte{nil, {}, append(slices.Clone(sig), 0), append([]byte{0}, sig...), more, piece(4, sig...), seq(piece(4, sig...)), piece(3, append([]byte{0}, sig...)...), bytesOf(slices.Clone(sig), 4096), bytesOf(slices.Clone(sig), 4097)} {
		verifies(t, "no such bytes", three(), s.key(), msg, other, api.ErrSig)
	}
	verifies(t, "no bit turned", three(), s.key(), msg, sig, api.OK)
}

func TestP122OtherMessagesOfAPower(t *testing.T) {
	s := low()
	for _, msg := range messages() {
		sig, hash := s.sign(msg), sha256.Sum256(msg)
		for at := range msg {
			other := slices.Clone(msg)
			other[at] ^= 1 << (at % 8)
			verifies(t, "another message", three(), s.key(), other, sig, api.ErrSig)
		}
		for _, other := range [][]byte{append(slices.Clone(msg), 0), append([]byte{0}, msg...), hash[:], []byte("another")} {
			verifies(t, "another message", three(), s.key(), other, sig, api.ErrSig)
		}
		if len(msg) > 0 {
			verifies(t, "a byte less", three(), s.key(), msg[1:], sig, api.ErrSig)
			verifies(t, "a byte less", three(), s.key(), msg[:len(msg)-1], sig, api.ErrSig)
			verifies(t, "no message", three(), s.key(), nil, sig, api.ErrSig)
		}
		// The hash's own signature isn't one of the message, which is hashed just once.
		verifies(t, "the hash's signature", three(), s.key(), msg, s.sign(hash[:]), api.ErrSig)
		if len(msg) == 32 {
			verifies(t, "the message as a hash", three(), s.key(), msg, s.signHash([32]byte(msg)), api.ErrSig)
		}
	}
}

// Other keys, and such as rsa.Check refuses: those are of a right Kind, so that the signature is wrong, not the key.
func TestP122OtherPowers(t *testing.T) {
	s, msg := low(), []byte("latchkey")
	sig := s.sign(msg)
	n, e := s.public().N, s.public().E
	even := slices.Clone(n)
	even[0]--
	for what, k := range map[string]api.RsaKey{
		"another modulus":                   great().public(),
		"a modulus of 2 more":               {N: limbsOf(plus(s.n, 2)), E: e},
		"another exponent":                  {N: n, E: api.Nat{5}},
		"an exponent of 1":                  {N: n, E: api.Nat{1}},
		"an even exponent":                  {N: n, E: api.Nat{4}},
		"no exponent":                       {N: n},
		"an exponent of N":                  {N: n, E: n},
		"an even modulus":                   {N: even, E: e},
		"no modulus":                        {E: e},
		"nothing":                           {},
		"a modulus of one limb":             {N: api.Nat{15}, E: api.Nat{3}},
		"a very great modulus":              {N: limbsOf(plus(twoTo(5000), 1)), E: e},
		"modulus and exponent changed over": {N: e, E: n},
	} {
		key := api.Key{Kind: api.KRsa, Rsa: k}
		verifies(t, what, three(), key, msg, sig, api.ErrSig)
		verifies(t, what+", no signature", three(), key, msg, nil, api.ErrSig)
	}
	hash := sha256.Sum256(msg)
	pad := new(big.Int).Exp(new(big.Int).SetBytes(sig), s.e, s.n).FillBytes(make([]byte, 62))
	verifies(t, "the pad by an exponent of 1", three(), api.Key{Kind: api.KRsa, Rsa: api.RsaKey{N: n, E: api.Nat{1}}}, msg, pad, api.ErrSig)
	verifies(t, "the hash alone", three(), s.key(), msg, hash[:], api.ErrSig)
	if sigs.Verify(nil, s.key(), msg, sig) != api.OK {
		t.Error("the right one is refused")
	}
}
