package cert_test

import (
	"bytes"
	"math/big"
	"math/rand"
	"slices"
	"strconv"
	"strings"
	"testing"
	"time"

	"latchkey/api"
)

// stop: what the judge ends with at the first fault.
type stop api.Errno

// need: without it, that error.
func need(ok bool, err api.Errno) {
	if !ok {
		panic(stop(err))
	}
}

// bit: a piece as the judge reads it.
type bit struct {
	tag  byte
	body []byte
}

// cut: all pieces that the bytes are; they must be some, or that error: a byte is a tag, then the length that is right for what is taken.
func cut(b []byte, err api.Errno) []bit {
	need(len(b) <= 4096, err)
	var out []bit
next:
	for len(b) > 0 {
		need(b[0]&0x1f != 0x1f, err)
		for _, digits := range []int{1, 2, 3} {
			if len(b) <= digits {
				break
			}
			size, form := new(big.Int).SetBytes(b[digits:1+digits]), b[1:2]
			if digits == 3 {
				size.SetBytes(b[2:4])
			}
			at := 1 + digits
			if !size.IsInt64() || size.Int64() > int64(len(b)-at) {
				continue
			}
			body := b[at : at+int(size.Int64())]
			if bytes.HasPrefix(b, piece(b[0], body...)) && (digits == 1 || form[0] == byte(0x7f+digits)) {
				out, b = append(out, bit{b[0], body}), b[at+len(body):]
				continue next
			}
		}
		need(false, err)
	}
	return out
}

// within: the pieces of one with that tag, as many as are allowed.
func within(p bit, tag byte, err api.Errno, counts ...int) []bit {
	need(p.tag == tag, err)
	out := cut(p.body, err)
	need(slices.Contains(counts, len(out)), err)
	return out
}

// one: the one piece with that tag that the bytes are.
func one(b []byte, tag byte, err api.Errno) []byte {
	return within(bit{0x30, b}, 0x30, err, 1)[0].expect(tag, err)
}

// expect: the body of a piece with that tag.
func (p bit) expect(tag byte, err api.Errno) []byte {
	need(p.tag == tag, err)
	return p.body
}

// number: a number that isn't below 0, as short as may be.
func (p bit) number(err api.Errno) *big.Int {
	n := new(big.Int).SetBytes(p.expect(2, err))
	need(bytes.Equal(integer(n), piece(2, p.body...)) && n.BitLen() <= 4096, err)
	return n
}

// dotted: an OID as it is written elsewhere.
func (p bit) dotted(err api.Errno) string {
	body := p.expect(6, err)
	need(len(body) > 0 && body[len(body)-1] < 0x80, err)
	var out []string
	for len(body) > 0 {
		need(body[0] != 0x80, err)
		end := slices.IndexFunc(body, func(b byte) bool { return b < 0x80 })
		n := new(big.Int)
		for _, b := range body[:end+1] {
			n.Add(n.Lsh(n, 7), big.NewInt(int64(b&0x7f)))
		}
		need(n.BitLen() <= 63, err)
		if len(out) == 0 {
			first := min(n.Uint64()/40, 2)
			out, n = []string{strconv.FormatUint(first, 10)}, n.SetUint64(n.Uint64()-40*first)
		}
		out, body = append(out, n.String()), body[end+1:]
	}
	need(len(out) <= 16, err)
	return strings.Join(out, ".")
}

// bits: the bytes of a BIT STRING, and how many of its bits are left over.
func (p bit) bits(err api.Errno) ([]byte, int) {
	body := p.expect(3, err)
	need(len(body) > 0 && body[0] <= 7, err)
	n := new(big.Int).SetBytes(body[1:])
	need(body[0] == 0 || len(body) > 1 && (n.Sign() == 0 || n.TrailingZeroBits() >= uint(body[0])), err)
	return body[1:], int(body[0])
}

// wholeBits: the same where none may be left over.
func (p bit) wholeBits(err api.Errno) []byte {
	b, left := p.bits(err)
	need(left == 0, err)
	return b
}

// seconds: a time, by the library's calendar.
func (p bit) seconds() uint64 {
	text := string(p.body)
	need(p.tag == 0x17 && len(text) == 13 || p.tag == 0x18 && len(text) == 15, api.ErrTime)
	if p.tag == 0x17 {
		century := "20"
		if text >= "50" {
			century = "19"
		}
		text = century + text
	}
	digits := strings.TrimSuffix(text, "Z")
	need(len(digits) == 14 && strings.Trim(digits, "0123456789") == "", api.ErrTime)
	at, err := time.Parse("20060102150405", digits)
	need(err == nil && at.Year() >= 1970 && (at.Year() >= 2050) == (p.tag == 0x18), api.ErrTime)
	return uint64(at.Unix())
}

// dottedOf: a curve's OID.
func dottedOf(c api.Curve) string {
	var out []string
	for _, n := range c.Oid {
		out = append(out, strconv.FormatUint(n, 10))
	}
	return strings.Join(out, ".")
}

// valueOf: the number by the library's reckoning.
func valueOf(a api.Nat) *big.Int {
	out := new(big.Int)
	for _, limb := range slices.Backward(a) {
		out.Or(out.Lsh(out, 64), new(big.Int).SetUint64(limb))
	}
	return out
}

// judge: what Parse should answer, by the chapter's words, step by step.
func judge(b []byte, curves []api.Curve) (c api.Cert, err api.Errno) {
	defer func() {
		if found := recover(); found != nil {
			c, err = api.Cert{}, api.Errno(found.(stop))
		}
	}()
	all := within(bit{0x30, b}, 0x30, api.ErrCert, 1)
	outer := within(all[0], 0x30, api.ErrCert, 3)
	body := within(outer[0], 0x30, api.ErrCert, 7, 8)
	c.Signed, c.Path = piece(0x30, outer[0].body...), -1
	two := within(body[0], 0xa0, api.ErrCert, 1)[0]
	need(two.number(api.ErrCert).Cmp(big.NewInt(2)) == 0, api.ErrCert)
	body[1].number(api.ErrCert)
	need(body[2].tag == outer[1].tag && bytes.Equal(body[2].body, outer[1].body), api.ErrCert)
	c.Alg = judgeAlg(body[2])
	c.Issuer, c.Subject = body[3].expect(0x30, api.ErrCert), body[5].expect(0x30, api.ErrCert)
	times := within(body[4], 0x30, api.ErrCert, 2)
	c.From, c.To = times[0].seconds(), times[1].seconds()
	c.Key = judgeKey(body[6], curves)
	if len(body) == 8 {
		judgeExts(&c, within(body[7], 0xa3, api.ErrCert, 1)[0])
	}
	c.Sig = outer[2].wholeBits(api.ErrCert)
	return c, api.OK
}

func judgeAlg(p bit) int64 {
	l := within(p, 0x30, api.ErrCert, 1, 2)
	name := l[0].dotted(api.ErrCert)
	if name == "1.2.840.10045.4.3.2" && len(l) == 1 {
		return 0
	}
	need(name == "1.2.840.113549.1.1.11" && len(l) == 2 && l[1].tag == 5 && len(l[1].body) == 0, api.ErrAlg)
	return -257
}

func judgeKey(p bit, curves []api.Curve) api.Key {
	l := within(p, 0x30, api.ErrCert, 2)
	kind := within(l[0], 0x30, api.ErrCert, 2)
	first, bits := kind[0].dotted(api.ErrCert), l[1].wholeBits(api.ErrCert)
	switch first {
	case "1.2.840.10045.2.1":
		name := kind[1].dotted(api.ErrCert)
		for place, c := range curves {
			if dottedOf(c) == name {
				return judgePoint(place, c, bits)
			}
		}
	case "1.2.840.113549.1.1.1":
		need(kind[1].tag == 5 && len(kind[1].body) == 0, api.ErrAlg)
		return judgePowers(bits)
	}
	panic(stop(api.ErrAlg))
}

func judgePoint(place int, c api.Curve, bits []byte) api.Key {
	p := valueOf(c.P)
	size := len(p.Bytes())
	need(len(bits) == 1+2*size && bits[0] == 4, api.ErrKey)
	x, y := new(big.Int).SetBytes(bits[1:1+size]), new(big.Int).SetBytes(bits[1+size:])
	left, right := new(big.Int).Mul(y, y), new(big.Int).Mul(x, x)
	right.Add(right, valueOf(c.A)).Mul(right, x).Add(right, valueOf(c.B))
	left.Sub(left, right).Mod(left, p)
	need(x.Cmp(p) < 0 && y.Cmp(p) < 0 && left.Sign() == 0, api.ErrKey)
	return api.Key{Kind: api.KEc, Curve: place, Point: api.Point{X: limbsOf(x), Y: limbsOf(y)}}
}

func judgePowers(bits []byte) api.Key {
	all := within(bit{0x30, bits}, 0x30, api.ErrKey, 1)
	l := within(all[0], 0x30, api.ErrKey, 2)
	n, e := l[0].number(api.ErrKey), l[1].number(api.ErrKey)
	size := len(n.Bytes())
	need(size >= 62 && size <= 256 && n.Bit(0) == 1 && e.Bit(0) == 1 && e.Cmp(big.NewInt(3)) >= 0 && e.Cmp(n) < 0, api.ErrKey)
	return api.Key{Kind: api.KRsa, Rsa: api.RsaKey{N: limbsOf(n), E: limbsOf(e)}}
}

// judgeExts: a fault in the piece that A3 holds is ErrExt, whatever it is.
func judgeExts(c *api.Cert, p bit) {
	l := cut(p.expect(0x30, api.ErrExt), api.ErrExt)
	need(len(l) > 0, api.ErrExt)
	octets := map[string][]byte{}
	for _, p := range l {
		parts := within(p, 0x30, api.ErrExt, 2, 3)
		name := parts[0].dotted(api.ErrExt)
		_, twice := octets[name]
		need(!twice, api.ErrExt)
		if len(parts) == 3 {
			need(bytes.Equal(parts[1].expect(1, api.ErrExt), []byte{0xff}), api.ErrExt)
			need(name == "2.5.29.19" || name == "2.5.29.15" || name == "1.3.6.1.4.1.45724.1.1.4", api.ErrExt)
		}
		octets[name] = parts[len(parts)-1].expect(4, api.ErrExt)
	}
	if b, ok := octets["2.5.29.19"]; ok {
		judgeCa(c, cut(one(b, 0x30, api.ErrExt), api.ErrExt))
	}
	c.Sign = c.Ca
	if b, ok := octets["2.5.29.15"]; ok {
		bits, _ := bit{3, one(b, 3, api.ErrExt)}.bits(api.ErrExt)
		need(len(bits) > 0, api.ErrExt)
		c.Sign = bits[0]>>2&1 == 1
	}
	if b, ok := octets["1.3.6.1.4.1.45724.1.1.4"]; ok {
		c.Model = one(b, 4, api.ErrExt)
		need(len(c.Model) == 16, api.ErrExt)
	}
}

func judgeCa(c *api.Cert, l []bit) {
	need(len(l) <= 2, api.ErrExt)
	if len(l) > 0 {
		c.Ca = bytes.Equal(l[0].expect(1, api.ErrExt), []byte{0xff})
		need(c.Ca, api.ErrExt)
	}
	if len(l) > 1 {
		n := l[1].number(api.ErrExt)
		need(n.BitLen() <= 8, api.ErrExt)
		c.Path = int(n.Int64())
	}
}

// judged: the bytes are read as the judge says; it tells what that is.
func judged(t *testing.T, what string, b []byte, curves []api.Curve) api.Errno {
	t.Helper()
	want, err := judge(b, curves)
	if err != api.OK {
		refusedOn(t, what, b, curves, err)
	} else {
		parsesOn(t, what, b, curves, want)
	}
	return err
}

// originals: certificates of all kinds, which are right.
func originals() [][]byte {
	out := [][]byte{unbase(root), unbase(leafOfRoot), unbase(powerRoot), unbase(leafOfPowers)}
	for _, tree := range []*node{barePoint(), barePower(), fullPoint(), fullPower()} {
		out = append(out, tree.form())
	}
	return out
}

// The judge takes what is right, and tells each of the errors of what isn't.
func TestJudgeAgrees(t *testing.T) {
	for _, b := range originals() {
		if judged(t, "an original", b, three()) != api.OK {
			t.Errorf("%x is none", b)
		}
	}
	if judged(t, "version 1", unbase(oldest), three()) != api.ErrCert {
		t.Error("a certificate of version 1")
	}
	for _, byPowers := range []bool{false, true} {
		for _, f := range faultsOf(byPowers) {
			tree := faulty(byPowers)
			f.do(tree)
			if judged(t, f.what, tree.form(), three()) != f.want {
				t.Error(f.what)
			}
		}
	}
}

// seen: all errors of the layer were told often enough for a test to mean something.
func seen(t *testing.T, told map[api.Errno]int, least int) {
	t.Helper()
	for _, err := range []api.Errno{api.OK, api.ErrCert, api.ErrAlg, api.ErrTime, api.ErrKey, api.ErrExt} {
		if told[err] < least {
			t.Errorf("error %d was told %d times", err, told[err])
		}
	}
}

// Each bit of a certificate turned, and each byte left out, doubled, or another one.
func TestP131EachBit(t *testing.T) {
	told := map[api.Errno]int{}
	for _, b := range originals() {
		for at := range b {
			for place := range 8 {
				changed := slices.Clone(b)
				changed[at] ^= 1 << place
				told[judged(t, "a bit turned", changed, three())]++
			}
			told[judged(t, "a byte left out", slices.Delete(slices.Clone(b), at, at+1), three())]++
			told[judged(t, "a byte doubled", slices.Insert(slices.Clone(b), at, b[at]), three())]++
			for _, other := range []byte{0, 0x7f, 0x80, 0xff} {
				changed := slices.Clone(b)
				changed[at] = other
				told[judged(t, "another byte", changed, three())]++
			}
		}
	}
	seen(t, told, 10)
}

// Each piece in the place of each other one, and next to it.
func TestP131PiecesExchanged(t *testing.T) {
	told := map[api.Errno]int{}
	for _, tree := range []func() *node{fullPoint, fullPower} {
		names := tree().all()[1:]
		for _, to := range names {
			for _, from := range names {
				original := tree()
				other := original.at(from.name)
				told[judged(t, from.name+" for "+to.name, tree().put(to.name, other).form(), three())]++
				told[judged(t, from.name+" ahead of "+to.name, tree().put(to.name, other, original.at(to.name)).form(), three())]++
				told[judged(t, from.name+" within "+to.name, tree().add(to.name, other).form(), three())]++
				told[judged(t, from.name+" alone in "+to.name, tree().put(to.name, group("", to.tag, other)).form(), three())]++
			}
		}
	}
	seen(t, told, 10)
}

// Certificates with some changes that are drawn, with curves that are drawn.
func TestP131Drawn(t *testing.T) {
	draw := rand.New(rand.NewSource(1))
	told := map[api.Errno]int{}
	lists := [][]api.Curve{three(), three(), three(), {small(), small()}, {p256()}, nil}
	for range 20000 {
		tree := faulty(draw.Intn(2) == 0)
		curves := lists[draw.Intn(len(lists))]
		for range draw.Intn(4) {
			all := tree.all()[1:]
			name := all[draw.Intn(len(all))].name
			switch draw.Intn(6) {
			case 0:
				tree.put(name)
			case 1:
				tree.put(name, tree.at(name), tree.at(name))
			case 2:
				tree.tagged(name, byte(draw.Intn(256)))
			case 3:
				tree.at(name).head = drawnBytes(draw, draw.Intn(20))
			case 4:
				tree.put(name, tree.at(all[draw.Intn(len(all))].name).copied())
			case 5:
				if head := tree.at(name).head; len(head) > 0 {
					changed := slices.Clone(head)
					changed[draw.Intn(len(changed))] = byte(draw.Intn(256))
					tree.at(name).head = changed
				}
			}
			if len(tree.all()) < 2 {
				break
			}
		}
		if tree.size() < 4000 {
			told[judged(t, "drawn", tree.form(), curves)]++
		}
	}
	seen(t, told, 100)
}

// copied: the same in memory of its own.
func (n *node) copied() *node {
	out := &node{name: n.name, tag: n.tag, head: slices.Clone(n.head)}
	for _, kid := range n.kids {
		out.kids = append(out.kids, kid.copied())
	}
	return out
}

// size: how many bytes the node has at most.
func (n *node) size() int {
	out := 4 + len(n.head)
	for _, kid := range n.kids {
		out += kid.size()
	}
	return out
}

// drawnBytes: so many bytes.
func drawnBytes(draw *rand.Rand, size int) []byte {
	b := make([]byte, size)
	for at := range b {
		b[at] = byte(draw.Intn(256))
	}
	return b
}
