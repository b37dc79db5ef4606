package cert_test

import (
	"bytes"
	"fmt"
	"math/big"
	"slices"
	"testing"

	"latchkey/api"
)

// What each field is of a certificate of each kind.
func TestP131Right(t *testing.T) {
	parses(t, "by points", barePoint(), barely())
	parses(t, "by powers", barePower(), barelyPower())
	parses(t, "by points, with extensions", fullPoint(), fully(barely(), fullPoint()))
	parses(t, "by powers, with extensions", fullPower(), fully(barelyPower(), fullPower()))

	mixed := bare(pointKey(), powerAlg)
	want := barely()
	want.Alg = -257
	parses(t, "a key by points, signed by powers", mixed, signedAs(want, mixed))
	mixed = bare(powerKey(), pointAlg)
	want = barelyPower()
	want.Alg = 0
	parses(t, "a key by powers, signed by points", mixed, signedAs(want, mixed))
}

// The chapter's example: a body of six pieces; and one of each other count.
func TestP131ExampleSixPieces(t *testing.T) {
	for _, name := range []string{"version", "number", "alg", "issuer", "times", "subject", "key"} {
		six := barePoint().put(name)
		if count := len(six.at("body").kids); count != 6 {
			t.Fatalf("%d pieces", count)
		}
		refused(t, "six pieces, without "+name, six, api.ErrCert)
		refused(t, "seven pieces, extensions in the place of "+name, fullPoint().put(name), api.ErrCert)
	}
	for count := range 14 {
		tree, want := fullPoint(), api.ErrCert
		body := tree.at("body")
		for at := 8; at < count; at++ {
			body.kids = append(body.kids, body.kids[7])
		}
		body.kids = body.kids[:count]
		what, expect := fmt.Sprint("pieces of a body: ", count), api.Cert{}
		switch count {
		case 7:
			want, expect = api.OK, barely()
		case 8:
			want, expect = api.OK, fully(barely(), tree)
		}
		answers(t, what, tree, expect, want)
	}
}

func TestP131NoCertificate(t *testing.T) {
	for _, b := range [][]byte{nil, {}, {0x30}, {0x30, 0}, {0}, {0x30, 0x80, 0, 0}, {5, 0}, make([]byte, 4096), make([]byte, 4097), make([]byte, 1<<16)} {
		refusedOn(t, "no certificate", b, three(), api.ErrCert)
	}
	for _, tree := range []*node{barePoint(), fullPower()} {
		b := tree.form()
		for at := range b {
			refusedOn(t, "a certificate's beginning", b[:at], three(), api.ErrCert)
		}
		for _, left := range [][]byte{{0}, {0xff}, {5, 0}, b, {0x30, 0}} {
			refusedOn(t, "bytes left over", slices.Concat(b, left), three(), api.ErrCert)
			refusedOn(t, "bytes ahead", slices.Concat(left, b), three(), api.ErrCert)
		}
	}
}

// change: what becomes of a certificate where one of its pieces is left out, stands twice, or has another tag.
type change struct {
	name                  string
	without, twice, other api.Errno
}

// changesOfAll: those of pieces that both kinds of certificates have.
func changesOfAll() []change {
	var out []change
	for _, name := range []string{"body", "version", "two", "number", "alg", "alg oid", "issuer", "times", "subject", "key", "kind", "outer alg", "outer alg oid", "sig"} {
		out = append(out, change{name, api.ErrCert, api.ErrCert, api.ErrCert})
	}
	for _, name := range []string{"from", "to"} {
		out = append(out, change{name, api.ErrCert, api.ErrCert, api.ErrTime})
	}
	// A3 and how many pieces it holds are the body's; the piece that it holds, and those within, are extensions.
	out = append(out, change{"exts", api.OK, api.ErrCert, api.ErrCert}, change{"ext list", api.ErrCert, api.ErrCert, api.ErrExt})
	for _, name := range []string{"ca oid", "ca octets", "ca list", "ca true", "use oid", "use octets", "use bits", "model oid", "model octets", "model bytes", "other oid", "other octets"} {
		out = append(out, change{name, api.ErrExt, api.ErrExt, api.ErrExt})
	}
	for _, name := range []string{"ca", "use", "model", "other", "ca critical", "use critical", "path"} {
		out = append(out, change{name, api.OK, api.ErrExt, api.ErrExt})
	}
	// Octets of an unknown extension may hold what they want.
	return append(out, change{"other list", api.OK, api.OK, api.OK})
}

// changesOfPoint: those of a key by points.
func changesOfPoint() []change {
	return []change{
		{"kind oid", api.ErrCert, api.ErrCert, api.ErrCert},
		{"curve oid", api.ErrCert, api.ErrCert, api.ErrCert},
		{"point", api.ErrCert, api.ErrCert, api.ErrCert},
	}
}

// changesOfPower: those of a key by powers.
func changesOfPower() []change {
	out := []change{
		{"kind oid", api.ErrCert, api.ErrCert, api.ErrCert},
		{"kind null", api.ErrCert, api.ErrCert, api.ErrAlg},
		{"powers", api.ErrCert, api.ErrCert, api.ErrCert},
		{"alg null", api.ErrCert, api.ErrCert, api.ErrCert},
		{"outer alg null", api.ErrCert, api.ErrCert, api.ErrCert},
	}
	for _, name := range []string{"numbers", "n", "e"} {
		out = append(out, change{name, api.ErrKey, api.ErrKey, api.ErrKey})
	}
	return out
}

// lacking: the certificate of a tree that lacks one of its pieces that may be missing.
func lacking(name string, c api.Cert) api.Cert {
	switch name {
	case "exts":
		c.Ca, c.Sign, c.Path, c.Model = false, false, -1, nil
	case "ca":
		c.Ca, c.Path = false, -1
	case "path":
		c.Path = -1
	case "model":
		c.Model = nil
	}
	return c
}

func TestP131EachPiece(t *testing.T) {
	for _, kind := range []struct {
		tree    func() *node
		want    api.Cert
		changes []change
	}{
		{fullPoint, fully(barely(), fullPoint()), changesOfPoint()},
		{fullPower, fully(barelyPower(), fullPower()), changesOfPower()},
	} {
		done := []string{"certificate"}
		for _, c := range slices.Concat(changesOfAll(), kind.changes) {
			done = append(done, c.name)
			answers(t, "without "+c.name, kind.tree().put(c.name), lacking(c.name, kind.want), c.without)
			tree := kind.tree()
			one := tree.at(c.name)
			answers(t, "twice "+c.name, tree.put(c.name, one, one), kind.want, c.twice)
			for tag := range 256 {
				if byte(tag) != one.tag && tag%32 != 31 {
					answers(t, fmt.Sprintf("%s with the tag %x", c.name, tag), kind.tree().tagged(c.name, byte(tag)), kind.want, c.other)
				}
			}
		}
		for _, one := range kind.tree().all() {
			if !slices.Contains(done, one.name) {
				t.Errorf("%s was not tried", one.name)
			}
		}
		for tag := range 256 {
			if tag != 0x30 {
				refused(t, "another tag of all", kind.tree().tagged("certificate", byte(tag)), api.ErrCert)
			}
		}
	}
}

// One piece more at the end of each list of pieces that the grammar ends.
func TestP131OneMorePiece(t *testing.T) {
	for _, more := range []*node{leaf("more", 5, ""), leaf("more", 0x30, ""), leaf("more", 2, "05"), leaf("more", 0xa1, "00"), leaf("more", 0, "")} {
		for _, c := range []struct {
			name string
			want api.Errno
		}{
			{"certificate", api.ErrCert}, {"body", api.ErrCert}, {"version", api.ErrCert}, {"alg", api.ErrCert}, {"outer alg", api.ErrCert},
			{"times", api.ErrCert}, {"key", api.ErrCert}, {"kind", api.ErrCert}, {"exts", api.ErrCert},
			{"ext list", api.ErrExt}, {"ca", api.ErrExt}, {"use", api.ErrExt}, {"model", api.ErrExt}, {"other", api.ErrExt},
			{"ca octets", api.ErrExt}, {"ca list", api.ErrExt}, {"use octets", api.ErrExt}, {"model octets", api.ErrExt},
		} {
			refused(t, fmt.Sprintf("%s with %x more", c.name, more.form()), fullPoint().add(c.name, more), c.want)
			refused(t, fmt.Sprintf("%s with %x more", c.name, more.form()), fullPower().add(c.name, more), c.want)
		}
		refused(t, "a key of three numbers, or of bits behind them", fullPower().add("numbers", more), api.ErrKey)
		refused(t, "a key of three numbers, or of bits behind them", fullPower().add("powers", more), api.ErrKey)
	}
}

// Bytes that are no pieces, where pieces stand.
func TestP131NoPieces(t *testing.T) {
	for _, body := range []string{"05", "02 02 05", "30 81 05 01 02 03 04 05", "1f 00", "02 82 00 01 05"} {
		for _, c := range []struct {
			name string
			want api.Errno
		}{
			{"certificate", api.ErrCert}, {"body", api.ErrCert}, {"version", api.ErrCert}, {"times", api.ErrCert}, {"key", api.ErrCert}, {"kind", api.ErrCert}, {"numbers", api.ErrKey},
			{"exts", api.ErrCert}, {"ext list", api.ErrExt}, {"ca", api.ErrExt}, {"use", api.ErrExt}, {"model", api.ErrExt}, {"other", api.ErrExt},
			{"ca octets", api.ErrExt}, {"ca list", api.ErrExt}, {"use octets", api.ErrExt}, {"model octets", api.ErrExt},
		} {
			refused(t, c.name+" of "+body, fullPower().set(c.name, body), c.want)
			tree := fullPower().add(c.name, leaf("more", 0x1f, ""))
			refused(t, c.name+" with no piece behind", tree, c.want)
		}
		refused(t, "algs of "+body, fullPower().setAlgs(unhex(body)), api.ErrCert)
	}
}

func TestP131Version(t *testing.T) {
	for n := range 300 {
		tree := barePoint().put("two", whole("two", integer(big.NewInt(int64(n)))))
		want := api.ErrCert
		if n == 2 {
			want = api.OK
		}
		answers(t, fmt.Sprint("version ", n), tree, barely(), want)
	}
	wide := barePoint().put("two", whole("two", integer(plus(twoTo(64), 2))))
	refused(t, "a version whose least limb is 2", wide, api.ErrCert)
	for _, body := range []string{"", "82", "fe", "00 02", "02 02", "02 00"} {
		refused(t, "version "+body, barePoint().set("two", body), api.ErrCert)
	}
	for _, body := range []string{"", "02", "02 01", "02 01 02 00", "02 01 02 05 00", "30 03 02 01 02"} {
		refused(t, "what stands around the version: "+body, barePoint().set("version", body), api.ErrCert)
	}
}

// The certificate's own number is one, whatever it is.
func TestP131Number(t *testing.T) {
	for _, n := range []*big.Int{big.NewInt(0), big.NewInt(1), big.NewInt(127), big.NewInt(128), twoTo(63), twoTo(64), plus(twoTo(160), -1), plus(twoTo(4088), 1), plus(twoTo(4096), -1)} {
		tree := barePoint().put("number", whole("number", integer(n)))
		parses(t, "number "+n.String(), tree, signedAs(barely(), tree))
	}
	for _, body := range []string{"", "80", "ff", "ff ff", "80 00 00", "00 05", "00 7f", "00 00"} {
		refused(t, "number "+body, barePoint().set("number", body), api.ErrCert)
	}
	refused(t, "a number of more than 512 bytes", barePoint().put("number", whole("number", integer(twoTo(4096)))), api.ErrCert)
}

// Names are any sequences, of whatever bytes; they aren't held against one another.
func TestP131Names(t *testing.T) {
	bodies := []string{"", "00", "ff", "05 00", "1f 1f 1f", "31 0b 30 09 06 03 55 04 06 13 02 53 45", "30 05"}
	for _, first := range bodies {
		for _, second := range bodies {
			tree := fullPoint().set("issuer", first).set("subject", second)
			want := fully(barely(), tree)
			want.Issuer, want.Subject = unhex(first), unhex(second)
			parses(t, "names", tree, want)
		}
	}
}

// What is signed is the body as a piece, whatever its length's form is.
func TestP131Signed(t *testing.T) {
	for size := range 600 {
		tree := barePoint()
		tree.at("subject").head = slices.Repeat([]byte{0xa5}, size)
		want := signedAs(barely(), tree)
		want.Subject = tree.at("subject").head
		parses(t, "a long name", tree, want)
		b := tree.form()
		if !bytes.HasPrefix(b[len(b)-bodySize(b):], want.Signed) {
			t.Fatal("what is signed isn't what stands there")
		}
	}
	for _, over := range []int{0, 1, 2, 100} {
		tree := barePoint()
		tree.at("subject").head = make([]byte, 2000)
		missing := 4096 + over - len(tree.form())
		tree.at("subject").head = make([]byte, 2000+missing)
		if size := len(tree.form()); size != 4096+over {
			t.Fatalf("%d bytes", size)
		}
		want, err := signedAs(barely(), tree), api.OK
		want.Subject = tree.at("subject").head
		if over > 0 {
			err = api.ErrCert
		}
		answers(t, "as many bytes as may be, and more", tree, want, err)
	}
}

func TestP131Sig(t *testing.T) {
	for _, body := range []string{"00", "00 00", "00 ff", "00 01 02 03", "00" + fmt.Sprintf("%0600x", 1)} {
		tree := fullPoint().set("sig", body)
		want := fully(barely(), tree)
		want.Sig = unhex(body)[1:]
		parses(t, "sig "+body, tree, want)
	}
	for _, body := range []string{"", "01", "07", "08", "08 00", "ff 00", "01 00", "07 80", "01 fe", "04 30 06 02 01 05 02 01 00", "01 01", "07 40"} {
		refused(t, "sig "+body, fullPoint().set("sig", body), api.ErrCert)
	}
}
