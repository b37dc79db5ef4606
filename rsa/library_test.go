package rsa_test

import (
	"crypto"
	library "crypto/rsa"
	"crypto/sha256"
	"encoding/hex"
	"math/big"
	"testing"
)

// asTheLibrary: the answer is the library's too.
func asTheLibrary(t *testing.T, what string, k secret, hash [32]byte, sig []byte, want bool) {
	t.Helper()
	key := library.PublicKey{N: k.n, E: int(k.e.Int64())}
	if err := library.VerifyPKCS1v15(&key, crypto.SHA256, hash[:], sig); (err == nil) != want {
		t.Fatalf("%s: the library says %v", what, err)
	}
	verifies(t, what, k.public(), hash, sig, want)
}

// The library takes only keys of 1024 bits and more.
func TestP92AsTheLibrary(t *testing.T) {
	for _, k := range products()[6:] {
		hash := sha256.Sum256([]byte("latchkey"))
		sig := k.sign(hash)
		asTheLibrary(t, "a right signature", k, hash, sig, true)
		asTheLibrary(t, "another hash", k, sha256.Sum256(nil), sig, false)
		asTheLibrary(t, "a byte less", k, hash, sig[1:], false)
		asTheLibrary(t, "a byte more", k, hash, append([]byte{0}, sig...), false)
		asTheLibrary(t, "a number of N", k, hash, k.n.Bytes(), false)
		sig[5] ^= 0x10
		asTheLibrary(t, "a bit turned", k, hash, sig, false)
	}
}

// Signatures of "latchkey" that OpenSSL 3.0 made (openssl dgst -sha256 -sign), with E 65537.
const (
	shortN = "c2f30dd8b4efc7ca962a9bcb97752026b55820b153bcd3895cc1495d6fddacc3" +
		"f374ea5d5faf314d0c4302780ca5e434207ab562b0b3a3a4412f9f468d1158ef"
	shortSig = "a0deeb537248985a072152afb6a7e0a022e52fa47c93f6663c22535960a682b7" +
		"f96a4c9f54c14f090c7739be66fdc53e66aaf7981fc66254baf412283e955600"
	longN = "db94dd57f2fd5bc2de0c281f0dbebdb81c6176cd76235e86e2d08e98d0f73f47" +
		"36f75e6ba3e10b80e9c546a6dea6c7140770bcb8022fd999c4c5bf0254f607ef" +
		"a2cb279e281a7fb3f2b0a71b0dcbcc1972e38956d3355db5ca7c71bac012b4cb" +
		"3c529f1825c43626af1d6ab80fc08417403c8fc633f6c77448b60116bec72e60" +
		"7480deaaffb01b88a9b1899d2d6587f8ec247c0d4ee430482bcbaa57e88e879b" +
		"1a369344954e08dae61f909077307a8e019c422d95f253e4d2044834d8cf0cf6" +
		"77273331ddf5427a14028c1efd1f576791839196d606fe92c1f62cc9278d716a" +
		"a0c89e743e8d45b3500dc0c1fa1848f143059e2a2daeccd909509002225135bd"
	longSig = "bb03caaf4c2e7e631323f7ab1fe0072c6faddd7c935b9590b07b8ba1db68bd61" +
		"5664abc5b1bbf2005ee64e87b5e4b00d4cd370b7c7a4bbb082d3d71780cec3e7" +
		"07df2714b80d4c215d085411210144c4c6aa5584fb4c69991c211007a51c0471" +
		"06b7c7c49e6679dc92df82c9b03f684d7b937aab33b3643428664e165a124217" +
		"f1a6c5bc48c565cf236889c68e39b8d7261da77a744a1b9ad919efa1b9db6fd3" +
		"3cd935c2697b15e2a76d2377ccb22c813032d9f306646bd3dbf426b70ef996f8" +
		"d15456d1aef90d21b616f83fc5f2b3491ab3f7bd1ef336910e1dd1adfc883d5c" +
		"38ce03843998055f4d5c42dabfdc8d314e6806f79db706b0441f2eb63867287d"
)

// unhex: the bytes of a text of base sixteen.
func unhex(t *testing.T, text string) []byte {
	t.Helper()
	b, err := hex.DecodeString(text)
	if err != nil {
		t.Fatal(err)
	}
	return b
}

func TestP92SignaturesThatOthersMade(t *testing.T) {
	hash := sha256.Sum256([]byte("latchkey"))
	for _, made := range []struct{ n, sig string }{{shortN, shortSig}, {longN, longSig}} {
		sig := unhex(t, made.sig)
		k := public(new(big.Int).SetBytes(unhex(t, made.n)), big.NewInt(65537))
		verifies(t, "OpenSSL's signature", k, hash, sig, true)
		verifies(t, "OpenSSL's signature of another hash", k, sha256.Sum256([]byte("latchkez")), sig, false)
		sig[0] ^= 1
		verifies(t, "OpenSSL's signature with a bit turned", k, hash, sig, false)
	}
}
