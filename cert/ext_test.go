package cert_test

import (
	"encoding/hex"
	"fmt"
	"math/big"
	"slices"
	"testing"

	"latchkey/api"
)

// holding: an extension of that OID whose octets are those bytes; critical or not.
func holding(oid string, critical bool, octets []byte) *node {
	out := ext("more", oid, critical)
	out.at("more octets").head = octets
	return out
}

// told: what extensions tell.
type told struct {
	ca, sign bool
	path     int
	model    string
}

// cert: barely with that.
func (d told) cert(tree *node) api.Cert {
	c := signedAs(barely(), tree)
	c.Ca, c.Sign, c.Path, c.Model = d.ca, d.sign, d.path, unhex(d.model)
	return c
}

// tells: a certificate with just those extensions is right, and is told that.
func tells(t *testing.T, what string, want told, exts ...*node) {
	t.Helper()
	tree := barePoint().having(exts...)
	parses(t, what, tree, want.cert(tree))
	tree = barePower().having(exts...)
	c := signedAs(want.cert(tree), tree)
	c.Key, c.Alg = lowKey(), -257
	parses(t, what, tree, c)
}

// extRefused: a certificate with just those extensions is none.
func extRefused(t *testing.T, what string, exts ...*node) {
	t.Helper()
	refused(t, what, barePoint().having(exts...), api.ErrExt)
	refused(t, what, barePower().having(exts...), api.ErrExt)
}

// each: with an extension of that OID and octets, be it critical or not.
func each(oid, octets string, do func(what string, one *node)) {
	for _, critical := range []bool{false, true} {
		do(fmt.Sprintf("%s of %s, critical: %v", oid, octets, critical), holding(oid, critical, unhex(octets)))
	}
}

func TestP131NoExtensions(t *testing.T) {
	parses(t, "none at all", barePoint(), told{path: -1}.cert(barePoint()))
	refused(t, "an empty sequence", barePoint().having(), api.ErrExt)
	for _, tree := range []func() *node{fullPoint, fullPower} {
		for _, body := range []string{"05 00", "30 00", "31 00", "04 00", "02 01 05", "30 01 30", "30 02 05 00", "30 02 30 00", "30 04 30 02 05 00", "30 01 00"} {
			refused(t, "extensions: "+body, tree().set("exts", body), api.ErrExt)
		}
		list := hex.EncodeToString(tree().at("ext list").form())
		for _, body := range []string{"", "00", "30", "05", "30 01", "30 81 00", "1f 00", "30 00 30 00", "05 00 05 00", "30 00 00", "05 00" + list, list + list, list + "05 00", list + "01", list + "00", list[2:]} {
			refused(t, "not one piece: "+body, tree().set("exts", body), api.ErrCert)
		}
	}
}

func TestP131Ca(t *testing.T) {
	for octets, want := range map[string]told{
		"30 00":                      {path: -1},
		"30 03 01 01 ff":             {ca: true, sign: true, path: -1},
		"30 06 01 01 ff 02 01 00":    {ca: true, sign: true},
		"30 06 01 01 ff 02 01 01":    {ca: true, sign: true, path: 1},
		"30 06 01 01 ff 02 01 7f":    {ca: true, sign: true, path: 127},
		"30 07 01 01 ff 02 02 00 80": {ca: true, sign: true, path: 128},
		"30 07 01 01 ff 02 02 00 ff": {ca: true, sign: true, path: 255},
	} {
		each(forCa, octets, func(what string, one *node) { tells(t, what, want, one) })
	}
	for _, octets := range []string{
		"", "00", "30", "05 00", "31 00", "04 00", "01 01 ff", "30 00 00", "30 00 30 00", "30 02 05 00",
		"30 03 01 01 00", "30 03 01 01 01", "30 02 01 00", "30 04 01 02 ff ff", "30 03 02 01 03", "30 03 04 01 ff", "30 06 01 01 ff 01 01 ff",
		"30 06 01 01 00 02 01 03", "30 06 02 01 03 01 01 ff", "30 06 01 01 ff 02 01 80", "30 06 01 01 ff 02 01 ff", "30 05 01 01 ff 02 00", "30 07 01 01 ff 02 02 00 03",
		"30 07 01 01 ff 02 02 01 00", "30 07 01 01 ff 02 02 01 03", "30 07 01 01 ff 02 02 7f ff", "30 06 01 01 ff 04 01 03", "30 09 01 01 ff 02 01 03 02 01 03",
		"30 09 01 01 ff 01 01 ff 02 01 03", "30 08 01 01 ff 02 01 03 05 00", "30 06 01 01 ff 02 01", "30 0e 01 01 ff 02 09 01 00 00 00 00 00 00 00 03",
	} {
		each(forCa, octets, func(what string, one *node) { extRefused(t, what, one) })
	}
}

// Each Path up to 700, and some that are far above.
func TestP131Path(t *testing.T) {
	of := func(n *big.Int) *node { return holding(forCa, true, seq(piece(1, 0xff), integer(n))) }
	for n := range 700 {
		if n <= 255 {
			tells(t, "a Path", told{ca: true, sign: true, path: n}, of(big.NewInt(int64(n))))
		} else {
			extRefused(t, "a Path", of(big.NewInt(int64(n))))
		}
	}
	for _, n := range []*big.Int{twoTo(16), twoTo(63), twoTo(64), plus(twoTo(64), 3), twoTo(128), plus(twoTo(4096), -1), twoTo(4097)} {
		extRefused(t, "a Path", of(n))
	}
}

// Sign is one bit of the first byte, whatever else is set.
func TestP131Use(t *testing.T) {
	for first := range 256 {
		for left := range 8 {
			octets := fmt.Sprintf("03 02 %02x %02x", left, first)
			each(forUse, octets, func(what string, one *node) {
				if first%(1<<left) != 0 {
					extRefused(t, what, one)
				} else {
					tells(t, what, told{sign: first/4%2 == 1, path: -1}, one)
				}
			})
		}
		tells(t, "a byte more", told{sign: first/4%2 == 1, path: -1}, holding(forUse, false, unhex(fmt.Sprintf("03 03 07 %02x 80", first))))
		tells(t, "two bytes more", told{sign: first/4%2 == 1, path: -1}, holding(forUse, true, unhex(fmt.Sprintf("03 04 00 %02x 04 ff", first))))
	}
	for _, octets := range []string{"", "03", "03 00", "03 01 00", "03 01 01", "03 02 08 00", "04 02 02 04", "02 02 02 04", "30 00", "30 04 03 02 02 04", "03 02 02 04 00", "03 02 02 04 03 02 02 04", "03 02 03 04", "03 03 02 04", "23 02 02 04"} {
		each(forUse, octets, func(what string, one *node) { extRefused(t, what, one) })
	}
}

// Sign is as Ca, unless there is an extension that tells it.
func TestP131UseAndCa(t *testing.T) {
	for octets, sign := range map[string]bool{"03 02 02 04": true, "03 02 01 06": true, "03 02 07 80": false, "03 02 00 00": false, "03 03 07 00 80": false, "03 02 00 ff": true} {
		use := holding(forUse, true, unhex(octets))
		for _, ca := range []struct {
			octets string
			want   told
		}{{"30 00", told{path: -1}}, {"30 03 01 01 ff", told{ca: true, path: -1}}, {"30 06 01 01 ff 02 01 09", told{ca: true, path: 9}}} {
			ca.want.sign = sign
			tells(t, "use behind", ca.want, holding(forCa, true, unhex(ca.octets)), use)
			tells(t, "use ahead", ca.want, use, holding(forCa, true, unhex(ca.octets)))
			tells(t, "others between", ca.want, use, otherExt(), holding(forCa, false, unhex(ca.octets)))
		}
		tells(t, "use alone", told{sign: sign, path: -1}, use)
	}
}

func TestP131Model(t *testing.T) {
	for _, octets := range []string{"04 10" + model, "04 10" + fmt.Sprintf("%032x", 0), "04 10" + fmt.Sprintf("%032x", 1)} {
		each(forModel, octets, func(what string, one *node) { tells(t, what, told{path: -1, model: octets[5:]}, one) })
	}
	for size := range 40 {
		octets := piece(4, slices.Repeat([]byte{0x77}, size)...)
		if size == 16 {
			tells(t, "a Model of 16 bytes", told{path: -1, model: hex.EncodeToString(octets[2:])}, holding(forModel, false, octets))
			continue
		}
		extRefused(t, fmt.Sprint("a Model of bytes: ", size), holding(forModel, false, octets))
		extRefused(t, fmt.Sprint("octets of bytes: ", size), holding(forModel, false, octets[2:]))
	}
	for _, octets := range []string{"", model, "04 10", "04 10" + model + "00", "04 10" + model + "05 00", "03 10" + model, "24 10" + model, "30 12 04 10" + model, "04 12 04 10" + model, "04 11 00" + model} {
		each(forModel, octets, func(what string, one *node) { extRefused(t, what, one) })
	}
}

// Extensions that aren't known may hold what they want, unless they are critical.
func TestP131OtherExtensions(t *testing.T) {
	for _, oid := range [][]uint64{
		{2, 5, 29, 14}, {2, 5, 29, 16}, {2, 5, 29, 17}, {2, 5, 29, 18}, {2, 5, 29, 37}, {2, 5, 29}, {2, 5, 29, 19, 0}, {2, 5, 29, 15, 1}, {2, 5, 30, 19}, {1, 5, 29, 19}, {0, 5, 29, 15},
		{1, 3, 6, 1, 4, 1, 45724, 1, 1}, {1, 3, 6, 1, 4, 1, 45724, 1, 1, 4, 0}, {1, 3, 6, 1, 4, 1, 45724, 2, 1, 1}, {1, 3, 6, 1, 4, 1, 45725, 1, 1, 4}, {0, 0}, {2, 1<<63 - 81}, {1, 2, 3, 4, 5, 6, 7, 8, 9, 10, 11, 12, 13, 14, 15, 16},
	} {
		body := hex.EncodeToString(oidOf(oid...)[2:])
		for _, octets := range []string{"", "00", "30 00", "30 03 01 01 ff", "03 02 02 04", "04 10" + model, "ff ff ff"} {
			tells(t, fmt.Sprint(oid, " of ", octets), told{path: -1}, holding(body, false, unhex(octets)))
			extRefused(t, fmt.Sprint(oid, " of ", octets, ", critical"), holding(body, true, unhex(octets)))
		}
		extRefused(t, "a critical one behind others", caExt(), useExt(), modelExt(), otherExt(), holding(body, true, nil))
		extRefused(t, "a critical one ahead of others", holding(body, true, nil), caExt())
	}
	for _, body := range []string{"", "80 01", "55 1d 91", "55 80 1d", hex.EncodeToString(make([]byte, 16)), "2a 81 80 80 80 80 80 80 80 80 00"} {
		each(body, "30 00", func(what string, one *node) { extRefused(t, "an OID that isn't right: "+what, one) })
	}
}

// critical: what stands between OID and octets.
func withCritical(oid string, octets []byte, between ...*node) *node {
	out := holding(oid, false, octets)
	out.kids = slices.Insert(out.kids, 1, between...)
	return out
}

func TestP131Critical(t *testing.T) {
	right := unhex("30 03 01 01 ff")
	tells(t, "BOOLEAN true", told{ca: true, sign: true, path: -1}, withCritical(forCa, right, leaf("between", 1, "ff")))
	tells(t, "no BOOLEAN", told{ca: true, sign: true, path: -1}, withCritical(forCa, right))
	for _, between := range []*node{leaf("between", 1, "00"), leaf("between", 1, ""), leaf("between", 1, "01"), leaf("between", 1, "ff ff"), leaf("between", 2, "01"), leaf("between", 5, ""), leaf("between", 4, "ff"), leaf("between", 6, "55 1d 13")} {
		for _, oid := range []string{forCa, forOthers} {
			extRefused(t, fmt.Sprintf("%x between", between.form()), withCritical(oid, right, between))
			extRefused(t, fmt.Sprintf("%x between", between.form()), caExt(), withCritical(oid, right, between))
		}
		extRefused(t, "two between", withCritical(forCa, right, between, leaf("between", 1, "ff")))
	}
	one := caExt()
	one.kids[0], one.kids[1] = one.kids[1], one.kids[0]
	extRefused(t, "BOOLEAN ahead of the OID", one)
	one = caExt()
	one.kids[1], one.kids[2] = one.kids[2], one.kids[1]
	extRefused(t, "BOOLEAN behind the octets", one)
	one = modelExt()
	one.kids[0], one.kids[1] = one.kids[1], one.kids[0]
	extRefused(t, "the octets ahead of the OID", one)
}

// No OID stands twice, be it known or not, next to the other one or not, of the same octets or not.
func TestP131Twice(t *testing.T) {
	for _, one := range []*node{caExt(), useExt(), modelExt(), otherExt()} {
		extRefused(t, one.name+" twice", one, one)
		extRefused(t, one.name+" twice, another between", one, holding("55 1d 0e", false, nil), one)
		extRefused(t, one.name+" twice, behind another", holding("55 1d 0e", false, nil), one, one)
	}
	extRefused(t, "of other octets", holding(forCa, true, unhex("30 00")), caExt())
	extRefused(t, "of other octets", holding(forUse, true, unhex("03 02 07 80")), useExt())
	extRefused(t, "of other octets", holding(forModel, false, append([]byte{4, 16}, make([]byte, 16)...)), modelExt())
	extRefused(t, "of other octets", holding(forOthers, false, nil), otherExt())
	// Many that are all unlike, and then one of them once more.
	var many []*node
	for at := range 100 {
		many = append(many, holding(fmt.Sprintf("55 1d 81 %02x", at), false, nil))
	}
	want := told{true, true, 3, model}
	tells(t, "a hundred", want, slices.Concat(many, []*node{caExt(), modelExt()})...)
	tells(t, "a hundred", want, slices.Concat([]*node{caExt()}, many, []*node{modelExt()})...)
	for _, at := range []int{0, 50, 99} {
		extRefused(t, "one of a hundred again", slices.Concat(many, many[at:at+1])...)
	}
}

// The extensions' order changes nothing.
func TestP131ExtensionsInAnyOrder(t *testing.T) {
	exts := []*node{caExt(), useExt(), modelExt(), otherExt()}
	var tryAll func(done, left []*node)
	tryAll = func(done, left []*node) {
		if len(left) == 0 {
			tells(t, "extensions in another order", told{true, true, 3, model}, done...)
		}
		for at := range left {
			tryAll(append(slices.Clone(done), left[at]), slices.Delete(slices.Clone(left), at, at+1))
		}
	}
	tryAll(nil, exts)
}
