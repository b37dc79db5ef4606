package chain_test

import (
	"bytes"
	"fmt"
	"slices"
	"strings"
	"sync"
	"testing"
	"time"

	"latchkey/api"
	"latchkey/chain"
)

// now: a moment of these tests, 2020-09-13 12:26:40.
const now = 1600000000

// paper: what a certificate is made from, so that a test knows what it says without reading it.
type paper struct {
	subject, issuer string
	from, to        uint64
	owner, by       author // whose key it names, and who signs it
	ca              bool
	path            int    // none is written, if it is below 0
	use             string // the bits of what the key is for; none are written, if it is empty
	model           bool
	lied            bool      // its alg is the other kind's than that of who signs
	forged          bool      // what it has is a signature of other bytes
	broken          api.Errno // as what it can't be read
}

// What a key may be for: to sign certificates, or something else alone.
const (
	toSign    = "02 04"
	toSignToo = "01 86"
	toNothing = "00 00"
	toAnother = "07 80"
)

const (
	critical = true
	model    = "f8 a0 11 f3 8c 0a 4d 15 80 06 17 11 1f 9e dc 7d"
)

// algOf: what tells by what one signs.
func algOf(byPowers bool) []byte {
	if byPowers {
		return seq(oidOf(1, 2, 840, 113549, 1, 1, 11), piece(5))
	}
	return seq(oidOf(1, 2, 840, 10045, 4, 3, 2))
}

// ext: an extension.
func ext(name []byte, critical bool, octets []byte) []byte {
	if critical {
		return seq(name, piece(1, 0xff), piece(4, octets...))
	}
	return seq(name, piece(4, octets...))
}

// exts: all that the paper says of its kind.
func (p paper) exts() [][]byte {
	var out [][]byte
	if p.ca {
		said := [][]byte{piece(1, 0xff)}
		if p.path >= 0 {
			said = append(said, group(2, unhex(fmt.Sprintf("00%02x", p.path))[boolean(p.path < 128):]))
		}
		out = append(out, ext(oidOf(2, 5, 29, 19), critical, seq(said...)))
	}
	if p.use != "" {
		out = append(out, ext(oidOf(2, 5, 29, 15), critical, piece(3, unhex(p.use)...)))
	}
	if p.model {
		out = append(out, ext(oidOf(1, 3, 6, 1, 4, 1, 45724, 1, 1, 4), !critical, piece(4, unhex(model)...)))
	}
	if p.broken == api.ErrExt {
		out = append(out, ext(oidOf(1, 2, 3), critical, nil))
	}
	return out
}

func boolean(b bool) int {
	if b {
		return 1
	}
	return 0
}

// moment: the piece of a time, which tells years by two signs as long as it can.
func moment(seconds uint64) []byte {
	at := time.Unix(int64(seconds), 0).UTC()
	if at.Year() < 2050 {
		return piece(0x17, []byte(at.Format("060102150405Z"))...)
	}
	return piece(0x18, []byte(at.Format("20060102150405Z"))...)
}

// name: whom a certificate names, in pieces between which bars stand; of no text there is none.
func name(text string) []byte {
	var out []byte
	for part := range strings.FieldsFuncSeq(text, func(r rune) bool { return r == '|' }) {
		out = append(out, piece(0x0c, []byte(part)...)...)
	}
	return out
}

// alg: what the paper tells of its signature.
func (p paper) alg() []byte {
	if p.broken == api.ErrAlg {
		return seq(oidOf(1, 2, 3))
	}
	return algOf(p.by.byPowers() != p.lied)
}

// body: what is signed.
func (p paper) body() []byte {
	version, from, info := piece(2, 2), moment(p.from), p.owner.info()
	switch p.broken {
	case api.ErrCert:
		version = piece(2, 1)
	case api.ErrTime:
		from = piece(0x17)
	case api.ErrKey:
		info = seq(seq(oidOf(1, 2, 840, 113549, 1, 1, 1), piece(5)), piece(3, 0, 5))
	}
	parts := [][]byte{group(0xa0, version), piece(2, 5), p.alg(), seq(name(p.issuer)), seq(from, moment(p.to)), seq(name(p.subject)), info}
	if exts := p.exts(); len(exts) > 0 {
		parts = append(parts, group(0xa3, seq(exts...)))
	}
	return seq(parts...)
}

// sig: what stands as the paper's signature.
func (p paper) sig() []byte {
	if p.forged {
		return p.by.sign([]byte("other bytes"))
	}
	return p.by.sign(p.body())
}

// formed: papers as bytes, as a signature takes its time and most papers stand in many tests.
var formed sync.Map

// form: the paper as bytes.
func (p paper) form() []byte {
	b, ok := formed.Load(p)
	if !ok {
		b = seq(p.body(), p.alg(), group(3, []byte{0}, p.sig()))
		formed.Store(p, b)
	}
	return slices.Clone(b.([]byte))
}

// cert: the paper as it should be read.
func (p paper) cert() api.Cert {
	out := api.Cert{
		Signed: p.body(),
		Issuer: name(p.issuer), Subject: name(p.subject),
		From: p.from, To: p.to, Key: p.owner.key(),
		Ca: p.ca, Sign: p.signs(), Path: -1, Sig: p.sig(),
	}
	if p.ca && p.path >= 0 {
		out.Path = p.path
	}
	if p.model {
		out.Model = unhex(model)
	}
	if p.by.byPowers() != p.lied {
		out.Alg = -257
	}
	return out
}

// signs: whether it says that it may sign.
func (p paper) signs() bool {
	if p.use == "" {
		return p.ca
	}
	return p.use == toSign || p.use == toSignToo
}

// line: what Check is handed, as papers.
type line struct {
	certs, anchors []paper
	now            uint64
}

// forms: papers as bytes.
func forms(papers []paper) [][]byte {
	var out [][]byte
	for _, p := range papers {
		out = append(out, p.form())
	}
	return out
}

// lineOf: so many right papers of those owners, each vouched for by the next one, and the last one by an anchor.
func lineOf(count int, owners ...author) *line {
	var all []paper
	for at := range count + 1 {
		p := paper{
			subject: "name " + string(rune('a'+at)), issuer: "name " + string(rune('b'+at)),
			from: now - 1000, to: now + 1000,
			owner: owners[at%len(owners)], by: owners[(at+1)%len(owners)],
			path: -1,
		}
		if at == 0 {
			p.model = true
		} else {
			p.ca, p.use = true, toSign
		}
		all = append(all, p)
	}
	return &line{all[:count:count], all[count:], now}
}

// byPowers: a line of so many whose keys are moduli.
func byPowers(count int) *line {
	return lineOf(count, powers(0), powers(1), powers(2), powers(3), powers(4))
}

// mixed: a line of so many whose keys are now of the one kind, now of the other.
func mixed(count int) *line {
	return lineOf(count, powers(0), points(1), points(2), powers(3), powers(4), points(5))
}

// lines: of each count, of each kind of keys.
func lines() []*line {
	var out []*line
	for count := 1; count <= 4; count++ {
		out = append(out, byPowers(count), mixed(count))
	}
	return out
}

// sameKey: whether two keys are alike, by their limbs.
func sameKey(a, b api.Key) bool {
	return a.Kind == b.Kind && a.Curve == b.Curve && a.Point.Inf == b.Point.Inf &&
		slices.Equal(a.Point.X, b.Point.X) && slices.Equal(a.Point.Y, b.Point.Y) &&
		slices.Equal(a.Rsa.N, b.Rsa.N) && slices.Equal(a.Rsa.E, b.Rsa.E)
}

// same: whether two certificates are alike.
func same(a, b api.Cert) bool {
	for _, pair := range [][2][]byte{{a.Signed, b.Signed}, {a.Issuer, b.Issuer}, {a.Subject, b.Subject}, {a.Model, b.Model}, {a.Sig, b.Sig}} {
		if !bytes.Equal(pair[0], pair[1]) {
			return false
		}
	}
	return sameKey(a.Key, b.Key) && a.From == b.From && a.To == b.To && a.Ca == b.Ca && a.Sign == b.Sign && a.Path == b.Path && a.Alg == b.Alg
}

// shown: a certificate as a test tells it.
func shown(c api.Cert) string {
	return fmt.Sprintf("(signed %x, names %x and %x, from %d to %d, key %v, ca %v, sign %v, path %d, model %x, alg %d, sig %x)",
		c.Signed, c.Issuer, c.Subject, c.From, c.To, c.Key, c.Ca, c.Sign, c.Path, c.Model, c.Alg, c.Sig)
}

// checks: those bytes are answered by that certificate and error.
func checks(t *testing.T, what string, certs, anchors [][]byte, curves []api.Curve, now uint64, want api.Cert, err api.Errno) {
	t.Helper()
	got, gotErr := chain.Check(certs, anchors, curves, now)
	if gotErr != err || !same(got, want) {
		t.Errorf("%s: %s, error %d; not %s, error %d (of %x, anchors %x, at %d)", what, shown(got), gotErr, shown(want), err, certs, anchors, now)
	}
}

// taken: the line is right; what is answered is its first certificate.
func (l *line) taken(t *testing.T, what string) {
	t.Helper()
	checks(t, what, forms(l.certs), forms(l.anchors), three(), l.now, l.certs[0].cert(), api.OK)
}

// refused: the line is refused by that error, and nothing is told beside it.
func (l *line) refused(t *testing.T, what string, err api.Errno) {
	t.Helper()
	checks(t, what, forms(l.certs), forms(l.anchors), three(), l.now, api.Cert{}, err)
}

// answered: either of both.
func (l *line) answered(t *testing.T, what string, err api.Errno) {
	t.Helper()
	if err == api.OK {
		l.taken(t, what)
	} else {
		l.refused(t, what, err)
	}
}
