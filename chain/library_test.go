package chain_test

import (
	"crypto"
	"crypto/ecdsa"
	"crypto/elliptic"
	stdrsa "crypto/rsa"
	"crypto/x509"
	"crypto/x509/pkix"
	"encoding/base64"
	"io"
	"math/big"
	"math/rand"
	"slices"
	"sync"
	"testing"
	"time"

	"latchkey/api"
	"latchkey/chain"
)

// Certificates that OpenSSL made: a root of 1024 bits with Path 2, one on P-256 with Path 1 that it signed, one of 1024 bits with Path 0 that that one signed, and an authenticator's on P-256.
const (
	root          = "MIICGzCCAYSgAwIBAgIBATANBgkqhkiG9w0BAQsFADAvMQswCQYDVQQGEwJTRTERMA8GA1UECgwITGF0Y2hrZXkxDTALBgNVBAMMBFJvb3QwIBcNMjYxMTE5MDgyMjM1WhgPMjA4MTA4MjIwODIyMzVaMC8xCzAJBgNVBAYTAlNFMREwDwYDVQQKDAhMYXRjaGtleTENMAsGA1UEAwwEUm9vdDCBnzANBgkqhkiG9w0BAQEFAAOBjQAwgYkCgYEArPefw14zZcKyvMHjAN4tMJ9TD5B7uvUE8ktDpB7t7zK0g7itUMMswvYHLYjYsAWKKj5E6cZv7c8A6UAvXwhyT4BWuzVkYieD6LCFnE3bHr4nyuSTgW5Zs+qS4EhvuRxxPqg8aTQFJiB/A3ykgJ0HrBwRzgR3NlWRgYL6Q5koBt8CAwEAAaNFMEMwEgYDVR0TAQH/BAgwBgEB/wIBAjAOBgNVHQ8BAf8EBAMCAQYwHQYDVR0OBBYEFNN41zIJHrmHFzupcMBDctbIqdwfMA0GCSqGSIb3DQEBCwUAA4GBAFNLHb3P+FRmyl312Cmu0fRJ6cQQr9bbQUzMR6NdxmiR7QJ0+d20GQyAfPkcasvHOxSoaMLDHYo89pUwpdj7p3Uy3kZdX0hVjt36p2sBRZKx8j+RNpDE1IHAwWBP1PpNPBqa0lzLujSAId8b9F2qcPfsLzQJFK7UpeezSNbhH0X2"
	policy        = "MIIB+TCCAWKgAwIBAgIDUSlGMA0GCSqGSIb3DQEBCwUAMC8xCzAJBgNVBAYTAlNFMREwDwYDVQQKDAhMYXRjaGtleTENMAsGA1UEAwwEUm9vdDAgFw0yNjExMTkwODIyMzVaGA8yMDY3MTIxNDA4MjIzNVowMTELMAkGA1UEBhMCU0UxETAPBgNVBAoMCExhdGNoa2V5MQ8wDQYDVQQDDAZQb2xpY3kwWTATBgcqhkjOPQIBBggqhkjOPQMBBwNCAAQ6OT+57ttV12IQ6xAkC1AelOkwd13RMOsrkAXF6i0ZOFQxpdUf38DCqbEoWW2H48/akPPj0tsBCM/8i4588iF7o2YwZDASBgNVHRMBAf8ECDAGAQH/AgEBMA4GA1UdDwEB/wQEAwICBDAdBgNVHQ4EFgQUJWPOF01xP+71m5fRd9aJWgnvBHQwHwYDVR0jBBgwFoAU03jXMgkeuYcXO6lwwENy1sip3B8wDQYJKoZIhvcNAQELBQADgYEAI/66bDDpVrRIVo60MuFyISHBPWA899cbpi4XfZwyMmbi+siHEvyd04g+pByvjHaBAvu82kdfPw6eOftSAT1Je8flT2Ca1rfqhjEa78Q1bQw/IlXkwld6cDDcyds9uHdOY0TD/8gFKBwoUUd6+erVkfQRMQZk8aBh8OCdJ7oyqlo="
	issuing       = "MIICAjCCAamgAwIBAgIDUZCTMAoGCCqGSM49BAMCMDExCzAJBgNVBAYTAlNFMREwDwYDVQQKDAhMYXRjaGtleTEPMA0GA1UEAwwGUG9saWN5MCAXDTI2MTExOTA4MjIzNVoYDzIwNTQwNDA2MDgyMjM1WjAyMQswCQYDVQQGEwJTRTERMA8GA1UECgwITGF0Y2hrZXkxEDAOBgNVBAMMB0lzc3VpbmcwgZ8wDQYJKoZIhvcNAQEBBQADgY0AMIGJAoGBAMPDABpmd5nbXGDrToqGUPdyYQxf8I5cG1ct46dCwMT2S3FppIh+ywjUAEk90P74eWazrizB7uWD8byNvJMYXsI/rb/9+M+eY91STuhQApctdvoLP6AIGfpjo1L9VPpoHU5GeSv7Q/DREjljLcCYcs33p1ab45fNhaVFQKVO0sCfAgMBAAGjZjBkMBIGA1UdEwEB/wQIMAYBAf8CAQAwDgYDVR0PAQH/BAQDAgGGMB0GA1UdDgQWBBQph5dlNhw2DQN3It1ElGwrUr8NETAfBgNVHSMEGDAWgBQlY84XTXE/7vWbl9F31olaCe8EdDAKBggqhkjOPQQDAgNHADBEAiB/9Ve5P3Kba/9fTSEArq8SILXygjGUzdfCrQbmmq2d7AIgZwmrZlNcbMt4Xq5XzhfVYt+g79Yb9rTGeUovuGSqIO8="
	authenticator = "MIICDjCCAXegAwIBAgIDUTMZMA0GCSqGSIb3DQEBCwUAMDIxCzAJBgNVBAYTAlNFMREwDwYDVQQKDAhMYXRjaGtleTEQMA4GA1UEAwwHSXNzdWluZzAeFw0yNjExMTkwODIyMzVaFw0zNjExMTYwODIyMzVaMDgxCzAJBgNVBAYTAlNFMREwDwYDVQQKDAhMYXRjaGtleTEWMBQGA1UEAwwNQXV0aGVudGljYXRvcjBZMBMGByqGSM49AgEGCCqGSM49AwEHA0IABAP0z2MqBJhotvuASJylsrT+0VU+SKnH4ee4wD6S9CPzEEZBPoieFNcjgnXtteI4mAUYMfnE2oxXR1MwCX0aS4WjczBxMAwGA1UdEwEB/wQCMAAwHwYDVR0jBBgwFoAUKYeXZTYcNg0DdyLdRJRsK1K/DREwIQYLKwYBBAGC5RwBAQQEEgQQ+KAR84wKTRWABhcRH57cfTAdBgNVHQ4EFgQUpqI+oVNZG3CxkAC44hC+cGVVFr8wDQYJKoZIhvcNAQELBQADgYEAZFmynQxieiBD7TKdtI2ojMgJKeTvoKjo/COKftumLgK6rBE6BLY+wKecxqOoOsXiW8gUplBAKPg6KOhmD45atdXkgZxpH7XnNYsUn8WgB2eV7xpmSh3Rgv0CJNLWA3LBNG5mRjgDJstxE1OZy0sgBQh9XHh+C/8EDQNNw0BfWtI="
)

// unbase: bytes that are written as a text of 64 signs.
func unbase(s string) []byte {
	b, err := base64.StdEncoding.DecodeString(s)
	if err != nil {
		panic(err)
	}
	return b
}

// date: a moment in seconds since the beginning of 1970.
func date(year, month, day, hour, minute, second int) uint64 {
	return uint64(time.Date(year, time.Month(month), day, hour, minute, second, 0, time.UTC).Unix())
}

// OpenSSL's certificates vouch for one another, from the second on in which they were made till the first one ends.
func TestP141OfOpenSsl(t *testing.T) {
	all := [][]byte{unbase(authenticator), unbase(issuing), unbase(policy), unbase(root)}
	begin, end := date(2026, 11, 19, 8, 22, 35), date(2036, 11, 16, 8, 22, 35)
	for _, c := range []struct {
		what           string
		certs, anchors [][]byte
		now            uint64
		want           api.Errno
	}{
		{"all, with the root's bytes", all, all[3:], begin, api.OK},
		{"three, with the root above", all[:3], all[3:], end, api.OK},
		{"two, with the next above", all[:2], all[2:3], end, api.OK},
		{"one, with the next above", all[:1], all[1:2], begin, api.OK},
		{"two from the middle, with the root above", all[1:3], all[3:], begin, api.OK},
		{"the root alone", all[3:], all[3:], begin, api.OK},
		{"all, too early", all, all[3:], begin - 1, api.ErrDate},
		{"all, too late", all, all[3:], end + 1, api.ErrDate},
		{"all, with another anchor", all, all[:3], begin, api.ErrAnchor},
		{"three, with one of themselves", all[:3], all[:2], begin, api.ErrAnchor},
		{"one, with the next but one above", all[:1], all[2:], begin, api.ErrAnchor},
		{"with one left out", [][]byte{all[0], all[2], all[3]}, all[3:], begin, api.ErrIssuer},
		{"the first one twice", [][]byte{all[0], all[0], all[1]}, all[2:], begin, api.ErrCa},
		{"one that may stand just above one", [][]byte{all[0], all[1], all[1]}, all[1:], begin, api.ErrCa},
	} {
		got, err := chain.Check(c.certs, c.anchors, three(), c.now)
		if err != c.want {
			t.Errorf("%s: error %d, not %d", c.what, err, c.want)
		}
		if isFirst := slices.Equal(got.Model, unhex(model)) && got.To == end && got.Alg == -257 && got.Key.Curve == 2; err == api.OK && &c.certs[0][0] == &all[0][0] && !isFirst {
			t.Errorf("%s: another one than the first: %s", c.what, shown(got))
		}
	}
}

// steady: signs the same of the same each time.
type steady struct{ key crypto.Signer }

func (s steady) Public() crypto.PublicKey { return s.key.Public() }
func (s steady) Sign(_ io.Reader, digest []byte, opts crypto.SignerOpts) ([]byte, error) {
	return s.key.Sign(nil, digest, opts)
}

// pointSigner: a key of the library's on P-256.
func pointSigner() crypto.Signer {
	key, err := ecdsa.ParseRawPrivateKey(elliptic.P256(), unhex("c9afa9d845ba75166b5c215767b1d6934e50c3db36e89b127b8a622b120f6721"))
	if err != nil {
		panic(err)
	}
	return steady{key}
}

// powerSigner: a key of the library's of 1024 bits, from primes that are drawn with a seed.
func powerSigner(seed int64) crypto.Signer {
	draw := rand.New(rand.NewSource(seed))
	prime := func() *big.Int {
		for {
			n := new(big.Int).Rand(draw, new(big.Int).Lsh(big.NewInt(1), 512))
			n.SetBit(n, 511, 1).SetBit(n, 510, 1).SetBit(n, 0, 1)
			if n.ProbablyPrime(20) && new(big.Int).ModInverse(big.NewInt(65537), plus(n, -1)) != nil {
				return n
			}
		}
	}
	p, q := prime(), prime()
	d := new(big.Int).ModInverse(big.NewInt(65537), new(big.Int).Mul(plus(p, -1), plus(q, -1)))
	key := &stdrsa.PrivateKey{PublicKey: stdrsa.PublicKey{N: new(big.Int).Mul(p, q), E: 65537}, D: d, Primes: []*big.Int{p, q}}
	key.Precompute()
	return steady{key}
}

// signers: keys of the library's, of each kind; those of powers ahead, as they take less time.
var signers = sync.OnceValue(func() []crypto.Signer {
	return []crypto.Signer{powerSigner(1), powerSigner(2), powerSigner(3), pointSigner()}
})

// plan: what the library makes a certificate from.
type plan struct {
	x509.Certificate
	by     string
	owner  crypto.Signer
	signer crypto.Signer
}

// made: the plan as bytes, and as the library reads them.
func (p *plan) made(t *testing.T) ([]byte, *x509.Certificate) {
	t.Helper()
	b, err := x509.CreateCertificate(nil, &p.Certificate, &x509.Certificate{Subject: pkix.Name{CommonName: p.by}}, p.owner.Public(), p.signer)
	if err != nil {
		t.Fatal(err)
	}
	c, err := x509.ParseCertificate(b)
	if err != nil {
		t.Fatal(err)
	}
	return b, c
}

// plans: those of a right line of so many and its anchor, with drawn keys.
func plans(draw *rand.Rand, count int) []*plan {
	var out []*plan
	for at := range count + 1 {
		owner := signers()[draw.Intn(3)]
		if draw.Intn(10) == 0 {
			owner = signers()[3]
		}
		p := &plan{by: string(rune('b' + at)), owner: owner, signer: owner}
		p.SerialNumber, p.Subject = big.NewInt(int64(at+1)), pkix.Name{CommonName: string(rune('a' + at))}
		p.NotBefore, p.NotAfter = time.Unix(now-10, 0), time.Unix(now+10, 0)
		if at > 0 {
			p.BasicConstraintsValid, p.IsCA, p.MaxPathLen = true, true, -1
			out[at-1].signer = owner
		}
		out = append(out, p)
	}
	return out
}

// change: something of the plan is drawn anew.
func (p *plan) change(draw *rand.Rand) {
	switch draw.Intn(8) {
	case 0:
		p.NotBefore = time.Unix(among[int64](draw, now-1, now, now+1), 0)
	case 1:
		p.NotAfter = time.Unix(among[int64](draw, now-1, now, now+1), 0)
	case 2:
		p.BasicConstraintsValid, p.IsCA, p.MaxPathLen = true, false, -1
	case 3:
		p.BasicConstraintsValid = false
	case 4:
		p.KeyUsage = among(draw, x509.KeyUsageCertSign, x509.KeyUsageCertSign|x509.KeyUsageCRLSign, x509.KeyUsageDigitalSignature)
	case 5:
		p.by = "nobody"
	case 6:
		p.signer = signers()[draw.Intn(3)]
	default:
		if p.BasicConstraintsValid && p.IsCA {
			p.MaxPathLen = draw.Intn(4)
			p.MaxPathLenZero = p.MaxPathLen == 0
		}
	}
}

// verified: whether the library takes the first one, with the last one as its root.
func verified(all []*x509.Certificate) bool {
	options := x509.VerifyOptions{
		Roots: x509.NewCertPool(), Intermediates: x509.NewCertPool(),
		CurrentTime: time.Unix(now, 0), KeyUsages: []x509.ExtKeyUsage{x509.ExtKeyUsageAny},
	}
	last := len(all) - 1
	options.Roots.AddCert(all[last])
	for _, c := range all[:last] {
		options.Intermediates.AddCert(c)
	}
	_, err := all[0].Verify(options)
	return err == nil
}

// Lines that the library makes are right just if it takes them too.
func TestP141AsTheLibrary(t *testing.T) {
	t.Parallel()
	draw, seen := rand.New(rand.NewSource(5)), map[bool]int{}
	for at := range 400 {
		all := plans(draw, 1+draw.Intn(4))
		for range draw.Intn(4) {
			all[draw.Intn(len(all))].change(draw)
		}
		var certs [][]byte
		var read []*x509.Certificate
		for _, p := range all {
			b, c := p.made(t)
			certs, read = append(certs, b), append(read, c)
		}
		anchor, want := certs[len(certs)-1], verified(read)
		// The anchor stands among the certificates as well, or above them.
		if len(certs) > 4 || draw.Intn(2) == 0 {
			certs = certs[:len(certs)-1]
		}
		got, err := chain.Check(certs, [][]byte{anchor}, three(), now)
		if (err == api.OK) != want {
			t.Errorf("line %d: error %d, by the library %v (of %x, anchor %x)", at, err, want, certs, anchor)
		}
		if err == api.OK && !slices.Equal(got.Signed, read[0].RawTBSCertificate) {
			t.Errorf("line %d: another one than the first: %s", at, shown(got))
		}
		seen[want]++
	}
	if seen[true] < 100 || seen[false] < 100 {
		t.Errorf("right or not: %v", seen)
	}
}
