package cert_test

import (
	"fmt"
	"slices"
	"testing"

	"latchkey/api"
)

// fault: one thing that is wrong, and what it is told as.
type fault struct {
	what string
	want api.Errno
	do   func(tree *node)
}

// faults: some of each place, in the chapter's order. They leave what others change where it is, and break no list around it.
func faults() []fault {
	more := func() *node { return leaf("more", 5, "") }
	behind := func(name string) func(tree *node) {
		return func(tree *node) { tree.add(name, more()) }
	}
	tag := func(name string, tag byte) func(tree *node) {
		return func(tree *node) { tree.tagged(name, tag) }
	}
	head := func(name, body string) func(tree *node) {
		return func(tree *node) { tree.at(name).head = unhex(body) }
	}
	return []fault{
		{"another tag of all", api.ErrCert, tag("certificate", 0x31)},
		{"an outer piece more", api.ErrCert, behind("certificate")},
		{"the body's tag", api.ErrCert, tag("body", 0x31)},
		{"two pieces more of the body", api.ErrCert, func(tree *node) { tree.add("body", more()).add("body", more()) }},
		{"the version's tag", api.ErrCert, tag("version", 0xa1)},
		{"a version of 3", api.ErrCert, head("two", "03")},
		{"a number below 0", api.ErrCert, head("number", "80")},
		{"an alg inside with more", api.ErrCert, behind("alg")},
		{"algs of another tag", api.ErrCert, func(tree *node) { tree.tagged("alg", 0x31).tagged("outer alg", 0x31) }},
		{"an alg that is neither", api.ErrAlg, func(tree *node) {
			tree.at("alg oid").head, tree.at("outer alg oid").head = unhex("2a 03"), unhex("2a 03")
		}},
		{"the first name's tag", api.ErrCert, tag("issuer", 0x31)},
		{"the second name's tag", api.ErrCert, tag("subject", 0x31)},
		{"the times' tag", api.ErrCert, tag("times", 0x31)},
		{"a time more", api.ErrCert, behind("times")},
		{"a first time that is none", api.ErrTime, head("from", "00")},
		{"a second time that is none", api.ErrTime, tag("to", 0x16)},
		{"the key's tag", api.ErrCert, tag("key", 0x31)},
		{"a piece more of the key", api.ErrCert, behind("key")},
		{"the kind's tag", api.ErrCert, tag("kind", 0x31)},
		{"a piece more of the kind", api.ErrCert, behind("kind")},
		{"a kind's OID that isn't right", api.ErrCert, tag("kind oid", 5)},
		{"the bits' tag", api.ErrCert, tag("bits", 4)},
		{"bits that aren't right", api.ErrCert, func(tree *node) { tree.at("bits").head[0] = 8 }},
		{"a kind that is another one", api.ErrAlg, head("kind oid", "2a 03")},
		{"powers without NULL", api.ErrAlg, tag("kind null", 4)},
		{"a curve's OID that isn't right", api.ErrCert, tag("curve oid", 5)},
		{"a curve that isn't known", api.ErrAlg, head("curve oid", "2a 03")},
		{"bits that are no key", api.ErrKey, func(tree *node) {
			if bits := tree.at("bits"); len(bits.kids) == 0 {
				bits.head[3]++
			} else {
				tree.tagged("numbers", 0x31)
			}
		}},
		{"the extensions' tag", api.ErrCert, tag("exts", 0xa1)},
		{"a piece more beside the extensions", api.ErrCert, behind("exts")},
		{"the tag of the list of extensions", api.ErrExt, tag("ext list", 0x31)},
		{"an extension's tag", api.ErrExt, tag("ca", 0x31)},
		{"a critical extension that isn't known", api.ErrExt, head("use oid", "2a 03")},
		{"a Model of 15 bytes", api.ErrExt, head("model bytes", "00 01 02 03 04 05 06 07 08 09 0a 0b 0c 0d 0e")},
		{"the signature's tag", api.ErrCert, tag("sig", 4)},
		{"a signature with bits left over", api.ErrCert, head("sig", "01 02")},
	}
}

// faultsOf: those that a certificate of that kind may have.
func faultsOf(byPowers bool) []fault {
	return slices.DeleteFunc(faults(), func(f fault) bool { return !f.fits(byPowers) })
}

// faulty: a full certificate of either kind whose key's bits have one name.
func faulty(byPowers bool) *node {
	tree, name := fullPoint(), "point"
	if byPowers {
		tree, name = fullPower(), "powers"
	}
	tree.at(name).name = "bits"
	return tree
}

// fits: whether a certificate of that kind has what the fault changes.
func (f fault) fits(byPowers bool) bool {
	switch f.what {
	case "a curve's OID that isn't right", "a curve that isn't known":
		return !byPowers
	case "powers without NULL":
		return byPowers
	}
	return true
}

// Of two faults the one is told that the chapter's order names first.
func TestP131TheFirstOfTwo(t *testing.T) {
	for _, byPowers := range []bool{false, true} {
		all := faultsOf(byPowers)
		for at, first := range all {
			tree := faulty(byPowers)
			first.do(tree)
			refused(t, first.what, tree, first.want)
			for _, second := range all[at+1:] {
				for _, pair := range [][2]fault{{first, second}, {second, first}} {
					tree := faulty(byPowers)
					pair[0].do(tree)
					pair[1].do(tree)
					refused(t, first.what+", and "+second.what, tree, first.want)
				}
			}
		}
	}
}

// Of three faults as well: those of other errors stand between.
func TestP131TheFirstOfThree(t *testing.T) {
	all := faultsOf(false)
	for at := range all {
		for next := at + 1; next < len(all); next++ {
			for last := next + 1; last < len(all); last++ {
				l := []fault{all[at], all[next], all[last]}
				tree := faulty(false)
				for _, f := range l {
					f.do(tree)
				}
				refused(t, fmt.Sprint(l[0].what, ", ", l[1].what, ", ", l[2].what), tree, l[0].want)
			}
		}
	}
}
