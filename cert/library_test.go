package cert_test

import (
	"bytes"
	"crypto"
	"crypto/ecdsa"
	"crypto/elliptic"
	stdrsa "crypto/rsa"
	"crypto/x509"
	"crypto/x509/pkix"
	"encoding/asn1"
	"fmt"
	"io"
	"math/big"
	"math/rand"
	"sync"
	"testing"
	"time"

	"latchkey/api"
	"latchkey/cert"
)

// Certificates that OpenSSL made: a root on P-256, one that it signed, a root of 1024 bits, one that it signed, and one of version 1.
const (
	root         = "MIIB3DCCAYKgAwIBAgIBATAKBggqhkjOPQQDAjBTMQswCQYDVQQGEwJTRTERMA8GA1UECgwITGF0Y2hrZXkxIjAgBgNVBAsMGUF1dGhlbnRpY2F0b3IgQXR0ZXN0YXRpb24xDTALBgNVBAMMBFJvb3QwIBcNMjYxMTE5MDE1ODM5WhgPMjA4MTA4MjIwMTU4MzlaMFMxCzAJBgNVBAYTAlNFMREwDwYDVQQKDAhMYXRjaGtleTEiMCAGA1UECwwZQXV0aGVudGljYXRvciBBdHRlc3RhdGlvbjENMAsGA1UEAwwEUm9vdDBZMBMGByqGSM49AgEGCCqGSM49AwEHA0IABNNaSARl6/gv3U4Z04Hm07ZtZ/P5K3p5H1w4quIZtHMYUFG3ZTr/7j6JhpBUfZkRmJvRuBR8gB7KfegSfwVPKXujRTBDMBIGA1UdEwEB/wQIMAYBAf8CAQAwDgYDVR0PAQH/BAQDAgEGMB0GA1UdDgQWBBREg0aBywtzKP3JhvI52Z9HaV6RpTAKBggqhkjOPQQDAgNIADBFAiEAyqYQL+tFiXo+bWerBVnnbv/dr7XTJoK+TdgpLcx84scCIEcSI97Phxam351Ygh/U7oGCRXhwl7GlkR6lgMPT1eYF"
	leafOfRoot   = "MIICDzCCAbWgAwIBAgIIAPHi08S1ppcwCgYIKoZIzj0EAwIwUzELMAkGA1UEBhMCU0UxETAPBgNVBAoMCExhdGNoa2V5MSIwIAYDVQQLDBlBdXRoZW50aWNhdG9yIEF0dGVzdGF0aW9uMQ0wCwYDVQQDDARSb290MB4XDTI2MTExOTAxNTgzOVoXDTM2MTExNjAxNTgzOVowUzELMAkGA1UEBhMCU0UxETAPBgNVBAoMCExhdGNoa2V5MSIwIAYDVQQLDBlBdXRoZW50aWNhdG9yIEF0dGVzdGF0aW9uMQ0wCwYDVQQDDARMZWFmMFkwEwYHKoZIzj0CAQYIKoZIzj0DAQcDQgAE1CnNCr2yotsIxvuyDHD1iGi2Zax6D4swwUmOlRPCTbSbkLmRJ40m1jaKZdMFYp0PCHgi5PE5vOcQmcjFkE6kSqNzMHEwDAYDVR0TAQH/BAIwADAhBgsrBgEEAYLlHAEBBAQSBBD4oBHzjApNFYAGFxEfntx9MB0GA1UdDgQWBBSEcdD9hDre4OdTACjMfuLxLcEXjzAfBgNVHSMEGDAWgBREg0aBywtzKP3JhvI52Z9HaV6RpTAKBggqhkjOPQQDAgNIADBFAiA8nNsycW1oMWbpNW02gXmoGM/L/Lm0WWAsD+OHKf4iewIhAI4T7XgZCVE5rghVGMSdJKP5rRVCdTsXDcNKfaPf1/Xh"
	powerRoot    = "MIICUDCCAbmgAwIBAgIBBzANBgkqhkiG9w0BAQsFADBTMQswCQYDVQQGEwJTRTERMA8GA1UECgwITGF0Y2hrZXkxIjAgBgNVBAsMGUF1dGhlbnRpY2F0b3IgQXR0ZXN0YXRpb24xDTALBgNVBAMMBFJvb3QwIBcNMjYxMTE5MDE1ODM5WhgPMjEyNjEwMjYwMTU4MzlaMFMxCzAJBgNVBAYTAlNFMREwDwYDVQQKDAhMYXRjaGtleTEiMCAGA1UECwwZQXV0aGVudGljYXRvciBBdHRlc3RhdGlvbjENMAsGA1UEAwwEUm9vdDCBnzANBgkqhkiG9w0BAQEFAAOBjQAwgYkCgYEAoMHrYeQKqUihhIclDsOQct8xfMPJuapv8ZRxU9vyzx2njfhYjBA1oWH1TrLipDHbMkSSnHwz903UfhWJo7ON6xwAoNROknsxfwATwwC9V9X4HkBHoeoTC64mXbqjnjUyoBOM81jetnCSE+519j/qJMfBuWktKWWQPmoaHp+oFjUCAwEAAaMyMDAwDwYDVR0TAQH/BAUwAwEB/zAdBgNVHQ4EFgQUtWo3/WL+8MVuM5hLwnTKLRWmNVgwDQYJKoZIhvcNAQELBQADgYEAgaCwzD10GBo1dKh55Bb1mB6MpscBokR7nC/O/k6JfnwY75u5nAE+YeR9BANhmN+qtNTxK0enJ/1aQlkDkA+NnAX6NxDSwIvRNLduVB59LWXknQgcavvlMqlMjQOwuEQJOJWmtI0w7QYDHIVujRtn3rdx+Th3fA1tVqNEM6yh3Iw="
	leafOfPowers = "MIICOTCCAaKgAwIBAgIBCDANBgkqhkiG9w0BAQsFADBTMQswCQYDVQQGEwJTRTERMA8GA1UECgwITGF0Y2hrZXkxIjAgBgNVBAsMGUF1dGhlbnRpY2F0b3IgQXR0ZXN0YXRpb24xDTALBgNVBAMMBFJvb3QwHhcNMjYxMTE5MDE1ODM5WhcNMjcxMTE5MDE1ODM5WjBTMQswCQYDVQQGEwJTRTERMA8GA1UECgwITGF0Y2hrZXkxIjAgBgNVBAsMGUF1dGhlbnRpY2F0b3IgQXR0ZXN0YXRpb24xDTALBgNVBAMMBExlYWYwWTATBgcqhkjOPQIBBggqhkjOPQMBBwNCAATUKc0KvbKi2wjG+7IMcPWIaLZlrHoPizDBSY6VE8JNtJuQuZEnjSbWNopl0wVinQ8IeCLk8Tm85xCZyMWQTqRKo2QwYjALBgNVHQ8EBAMCB4AwEwYDVR0lBAwwCgYIKwYBBQUHAwEwHQYDVR0OBBYEFIRx0P2EOt7g51MAKMx+4vEtwRePMB8GA1UdIwQYMBaAFLVqN/1i/vDFbjOYS8J0yi0VpjVYMA0GCSqGSIb3DQEBCwUAA4GBAHGy8UJBdcXFHMSL+ic5+08VYmqBiTT2NdKVAi6Va7iRO7X5GPfQzAgX6HEiqJY4W5BWVKWmWgwdDM2YVX/i/B5vdeVrRhVwSnaSRrbg2MIYgdUd+nqnSSr54FC9Ad4Ls5V8ZeqLluYYqkW+FNwwz2LzKFsBgWSm0bDg6uaFQY1d"
	oldest       = "MIIBmjCCAUACAQkwCgYIKoZIzj0EAwIwUzELMAkGA1UEBhMCU0UxETAPBgNVBAoMCExhdGNoa2V5MSIwIAYDVQQLDBlBdXRoZW50aWNhdG9yIEF0dGVzdGF0aW9uMQ0wCwYDVQQDDARSb290MB4XDTI2MTExOTAxNTgzOVoXDTI3MTExOTAxNTgzOVowGDEWMBQGA1UEAwwNTm8gZXh0ZW5zaW9uczCBnzANBgkqhkiG9w0BAQEFAAOBjQAwgYkCgYEAoMHrYeQKqUihhIclDsOQct8xfMPJuapv8ZRxU9vyzx2njfhYjBA1oWH1TrLipDHbMkSSnHwz903UfhWJo7ON6xwAoNROknsxfwATwwC9V9X4HkBHoeoTC64mXbqjnjUyoBOM81jetnCSE+519j/qJMfBuWktKWWQPmoaHp+oFjUCAwEAATAKBggqhkjOPQQDAgNIADBFAiEAnEOlC+zaRC2ShVdUF0Ffq6L2fCQ/mhgB5mQuNv3+dKoCIGnCosui6wpbwebe77q0NPY9K5GqF9BwTMSho/y77w7C"
)

// bodyOf: the body of a piece that is right.
func bodyOf(b []byte) []byte { return b[len(b)-bodySize(b):] }

// judgedByLibrary: what a certificate should be read as, by the library's reading of it.
func judgedByLibrary(t *testing.T, b []byte) api.Cert {
	t.Helper()
	c, err := x509.ParseCertificate(b)
	if err != nil {
		t.Fatalf("the library: %v of %x", err, b)
	}
	want := api.Cert{
		Signed: c.RawTBSCertificate, Issuer: bodyOf(c.RawIssuer), Subject: bodyOf(c.RawSubject),
		From: uint64(c.NotBefore.Unix()), To: uint64(c.NotAfter.Unix()),
		Ca: c.BasicConstraintsValid && c.IsCA, Path: -1, Sig: c.Signature,
	}
	if want.Ca && c.MaxPathLen >= 0 && (c.MaxPathLen > 0 || c.MaxPathLenZero) {
		want.Path = c.MaxPathLen
	}
	want.Sign = want.Ca
	for _, one := range c.Extensions {
		switch one.Id.String() {
		case "2.5.29.15":
			want.Sign = c.KeyUsage&x509.KeyUsageCertSign != 0
		case "1.3.6.1.4.1.45724.1.1.4":
			want.Model = bodyOf(one.Value)
		}
	}
	switch k := c.PublicKey.(type) {
	case *ecdsa.PublicKey:
		bits, err := k.Bytes()
		if err != nil {
			t.Fatal(err)
		}
		x, y := new(big.Int).SetBytes(bits[1:33]), new(big.Int).SetBytes(bits[33:])
		want.Key = api.Key{Kind: api.KEc, Curve: 2, Point: api.Point{X: limbsOf(x), Y: limbsOf(y)}}
	case *stdrsa.PublicKey:
		want.Key = api.Key{Kind: api.KRsa, Rsa: api.RsaKey{N: limbsOf(k.N), E: limbsOf(big.NewInt(int64(k.E)))}}
	}
	if c.SignatureAlgorithm == x509.SHA256WithRSA {
		want.Alg = -257
	}
	return want
}

// date: a moment in seconds since the beginning of 1970.
func date(year, month, day, hour, minute, second int) uint64 {
	return uint64(time.Date(year, time.Month(month), day, hour, minute, second, 0, time.UTC).Unix())
}

// What OpenSSL's certificates are, by what it was told when it made them.
func TestP131OfOpenSsl(t *testing.T) {
	for _, c := range []struct {
		name, text string
		to         uint64
		kind       api.KeyKind
		ca, sign   bool
		path       int
		model      string
		alg        int64
	}{
		{"root", root, date(2081, 8, 22, 1, 58, 39), api.KEc, true, true, 0, "", 0},
		{"leafOfRoot", leafOfRoot, date(2036, 11, 16, 1, 58, 39), api.KEc, false, false, -1, model, 0},
		{"powerRoot", powerRoot, date(2126, 10, 26, 1, 58, 39), api.KRsa, true, true, -1, "", -257},
		{"leafOfPowers", leafOfPowers, date(2027, 11, 19, 1, 58, 39), api.KEc, false, false, -1, "", -257},
	} {
		b := unbase(c.text)
		want := judgedByLibrary(t, b)
		parsesOn(t, c.name, b, three(), want)
		got, _ := cert.Parse(b, three())
		if got.From != date(2026, 11, 19, 1, 58, 39) || got.To != c.to || got.Key.Kind != c.kind || got.Ca != c.ca || got.Sign != c.sign || got.Path != c.path || !bytes.Equal(got.Model, unhex(c.model)) || got.Alg != c.alg {
			t.Errorf("%s: %s", c.name, shown(got))
		}
	}
	refusedOn(t, "a certificate of version 1", unbase(oldest), three(), api.ErrCert)
	refusedOn(t, "a key on P-256 without that curve", unbase(leafOfPowers), three()[:2], api.ErrAlg)
}

// steady: signs the same of the same each time.
type steady struct{ key crypto.Signer }

func (s steady) Public() crypto.PublicKey { return s.key.Public() }
func (s steady) Sign(_ io.Reader, digest []byte, opts crypto.SignerOpts) ([]byte, error) {
	return s.key.Sign(nil, digest, opts)
}

// pointSigner: a key of the library's on P-256.
var pointSigner = sync.OnceValue(func() crypto.Signer {
	key, err := ecdsa.ParseRawPrivateKey(elliptic.P256(), unhex("c9afa9d845ba75166b5c215767b1d6934e50c3db36e89b127b8a622b120f6721"))
	if err != nil {
		panic(err)
	}
	return steady{key}
})

// powerSigner: a key of the library's of 1024 bits, from primes that are drawn with a seed.
var powerSigner = sync.OnceValue(func() crypto.Signer {
	draw := rand.New(rand.NewSource(1))
	one, e := big.NewInt(1), big.NewInt(65537)
	for {
		var primes []*big.Int
		for len(primes) < 2 {
			n := new(big.Int).Rand(draw, twoTo(512))
			n.SetBit(n, 511, 1).SetBit(n, 510, 1).SetBit(n, 0, 1)
			if n.ProbablyPrime(20) {
				primes = append(primes, n)
			}
		}
		phi := new(big.Int).Mul(new(big.Int).Sub(primes[0], one), new(big.Int).Sub(primes[1], one))
		d := new(big.Int).ModInverse(e, phi)
		if d == nil {
			continue
		}
		key := &stdrsa.PrivateKey{PublicKey: stdrsa.PublicKey{N: new(big.Int).Mul(primes[0], primes[1]), E: 65537}, D: d, Primes: primes}
		key.Precompute()
		return steady{key}
	}
})

// made: a certificate that the library makes.
func made(t *testing.T, template *x509.Certificate, key, by crypto.Signer) []byte {
	t.Helper()
	parent := &x509.Certificate{Subject: pkix.Name{CommonName: "by " + fmt.Sprintf("%T", by.Public())}}
	b, err := x509.CreateCertificate(nil, template, parent, key.Public(), by)
	if err != nil {
		t.Fatal(err)
	}
	return b
}

// modelOf: the extension of a Model.
func modelOf() pkix.Extension {
	value, err := asn1.Marshal(unhex(model))
	if err != nil {
		panic(err)
	}
	return pkix.Extension{Id: asn1.ObjectIdentifier{1, 3, 6, 1, 4, 1, 45724, 1, 1, 4}, Value: value}
}

// template: what certificates of the library's have alike.
func template() *x509.Certificate {
	return &x509.Certificate{
		SerialNumber: hexInt("00f1e2d3c4b5a697"),
		Subject:      pkix.Name{Country: []string{"SE"}, Organization: []string{"Latchkey"}, CommonName: "Authenticator"},
		NotBefore:    time.Date(2020, 1, 2, 3, 4, 5, 0, time.UTC),
		NotAfter:     time.Date(2049, 12, 31, 23, 59, 59, 0, time.UTC),
	}
}

// Certificates of each kind of key, signed by each, with all that the library writes into extensions.
func TestP131OfTheLibrary(t *testing.T) {
	uses := []x509.KeyUsage{0, x509.KeyUsageCertSign, x509.KeyUsageDigitalSignature, x509.KeyUsageCertSign | x509.KeyUsageCRLSign, x509.KeyUsageCRLSign, x509.KeyUsageDecipherOnly, x509.KeyUsageDecipherOnly | x509.KeyUsageCertSign}
	for _, key := range []crypto.Signer{pointSigner(), powerSigner()} {
		for _, by := range []crypto.Signer{pointSigner(), powerSigner()} {
			for _, use := range uses {
				for _, path := range []int{-2, -1, 0, 1, 255, 256} {
					c := template()
					c.KeyUsage, c.DNSNames, c.ExtraExtensions = use, []string{"latchkey.example"}, []pkix.Extension{modelOf()}
					if path > -2 {
						c.BasicConstraintsValid, c.IsCA, c.MaxPathLen, c.MaxPathLenZero = true, true, path, path == 0
					}
					b := made(t, c, key, by)
					if path > 255 {
						refusedOn(t, "the library's, with too long a Path", b, three(), api.ErrExt)
						continue
					}
					parsesOn(t, "the library's", b, three(), judgedByLibrary(t, b))
				}
			}
		}
	}
}

// Certificates of the library's without extensions, with some of no CA, and with one that is critical.
func TestP131OfTheLibraryOtherExtensions(t *testing.T) {
	plain := template()
	b := made(t, plain, pointSigner(), pointSigner())
	parsesOn(t, "the library's", b, three(), judgedByLibrary(t, b))
	plain.BasicConstraintsValid, plain.MaxPathLen = true, -1
	b = made(t, plain, powerSigner(), pointSigner())
	parsesOn(t, "the library's of no CA", b, three(), judgedByLibrary(t, b))
	plain.PermittedDNSDomains, plain.PermittedDNSDomainsCritical = []string{"example"}, false
	b = made(t, plain, powerSigner(), pointSigner())
	parsesOn(t, "the library's with names", b, three(), judgedByLibrary(t, b))
	plain.PermittedDNSDomainsCritical = true
	refusedOn(t, "the library's with names that are critical", made(t, plain, powerSigner(), pointSigner()), three(), api.ErrExt)
}

// Times of both forms, and signatures by other hashes, which are none of the chapter's.
func TestP131OfTheLibraryTimesAndAlgs(t *testing.T) {
	for _, year := range []int{1970, 1999, 2000, 2024, 2049, 2050, 2100, 9999} {
		c := template()
		c.NotBefore = time.Date(year, 2, 28, 23, 59, 59, 0, time.UTC)
		c.NotAfter = c.NotBefore.AddDate(0, 0, 1)
		b := made(t, c, pointSigner(), powerSigner())
		parsesOn(t, "the library's", b, three(), judgedByLibrary(t, b))
	}
	early := template()
	early.NotBefore = time.Date(1969, 12, 31, 23, 59, 59, 0, time.UTC)
	refusedOn(t, "the library's of 1969", made(t, early, pointSigner(), powerSigner()), three(), api.ErrTime)
	for alg, by := range map[x509.SignatureAlgorithm]crypto.Signer{
		x509.ECDSAWithSHA384: pointSigner(), x509.ECDSAWithSHA512: pointSigner(), x509.SHA384WithRSA: powerSigner(), x509.SHA512WithRSA: powerSigner(),
	} {
		c := template()
		c.SignatureAlgorithm = alg
		refusedOn(t, alg.String(), made(t, c, pointSigner(), by), three(), api.ErrAlg)
	}
}
