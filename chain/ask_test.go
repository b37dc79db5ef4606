package chain_test

import (
	"fmt"
	"math"
	"testing"

	"latchkey/api"
)

// The first and the last second of each certificate's time, and those beside them.
func TestP141InTime(t *testing.T) {
	for count := 1; count <= 4; count++ {
		for place := range count {
			for _, c := range []struct {
				from, to uint64
				want     api.Errno
			}{
				{now, now + 1, api.OK}, {now - 1, now, api.OK}, {now, now, api.OK}, {now - 1, now + 1, api.OK}, {0, 4e9, api.OK},
				{now + 1, now + 2, api.ErrDate}, {now - 2, now - 1, api.ErrDate}, {now + 1, now - 1, api.ErrDate}, {now + 1, now, api.ErrDate}, {now, now - 1, api.ErrDate},
			} {
				l := byPowers(count)
				l.certs[place].from, l.certs[place].to = c.from, c.to
				what := fmt.Sprintf("of %d, place %d: from %d to %d at %d", count, place, c.from, c.to, now)
				l.answered(t, what, c.want)
				l.anchors = append(l.anchors, l.certs[count-1])
				l.answered(t, what+", and the last one is an anchor", c.want)
			}
		}
	}
}

// The time is what is handed in, from its least to its greatest.
func TestP141EachTime(t *testing.T) {
	for _, c := range []struct {
		now, from, to uint64
		want          api.Errno
	}{
		{0, 0, 0, api.OK}, {0, 0, 1, api.OK}, {0, 1, 2, api.ErrDate}, {1, 0, 0, api.ErrDate}, {1, 0, 1, api.OK},
		{253402300799, 0, 253402300799, api.OK}, {253402300800, 0, 253402300799, api.ErrDate},
		{math.MaxInt64, 0, 253402300799, api.ErrDate}, {math.MaxInt64 + 1, 0, 253402300799, api.ErrDate}, {math.MaxUint64, 0, 253402300799, api.ErrDate},
	} {
		for place := range 2 {
			l := byPowers(2)
			l.now = c.now
			for at := range l.certs {
				l.certs[at].from, l.certs[at].to = 0, math.MaxInt32
				if c.now > math.MaxInt32 {
					l.certs[at].to = 253402300799
				}
			}
			l.certs[place].from, l.certs[place].to = c.from, c.to
			l.anchors = l.certs[1:]
			l.answered(t, fmt.Sprintf("from %d to %d at %d, place %d", c.from, c.to, c.now, place), c.want)
		}
	}
}

// Each but the first may stand above so many: of the second one 0, of the third 1, of the fourth 2.
func TestP141Path(t *testing.T) {
	for count := 2; count <= 4; count++ {
		for place := 1; place < count; place++ {
			for _, path := range []int{-1, 0, 1, 2, 3, 127, 128, 255} {
				want := api.ErrCa
				if path == -1 || path >= place-1 {
					want = api.OK
				}
				for _, l := range []*line{byPowers(count), mixed(count)} {
					l.certs[place].path = path
					l.answered(t, fmt.Sprintf("of %d, place %d: Path %d", count, place, path), want)
				}
			}
		}
	}
}

// All paths at once: each as low as may be.
func TestP141PathsThatAreJustRight(t *testing.T) {
	l := byPowers(4)
	l.certs[1].path, l.certs[2].path, l.certs[3].path, l.anchors[0].path = 0, 1, 2, 3
	l.taken(t, "paths that are just right")
	l.anchors[0].path = 2
	l.refused(t, "an anchor whose path is too low", api.ErrAnchor)
	for place := 2; place < 4; place++ {
		l = byPowers(4)
		l.certs[1].path, l.certs[2].path, l.certs[3].path = 0, 1, 2
		l.certs[place].path--
		l.refused(t, "a path that is too low", api.ErrCa)
	}
}

// Each but the first must be a Ca that may sign.
func TestP141CaAndSign(t *testing.T) {
	for count := 2; count <= 4; count++ {
		for place := 1; place < count; place++ {
			for _, c := range []struct {
				what string
				ca   bool
				use  string
				want api.Errno
			}{
				{"a Ca that tells no use", true, "", api.OK},
				{"a Ca that may sign", true, toSign, api.OK},
				{"a Ca that may sign, among others", true, toSignToo, api.OK},
				{"a Ca for nothing", true, toNothing, api.ErrCa},
				{"a Ca for something else", true, toAnother, api.ErrCa},
				{"no Ca, no use", false, "", api.ErrCa},
				{"no Ca, that may sign", false, toSign, api.ErrCa},
				{"no Ca, for something else", false, toAnother, api.ErrCa},
			} {
				for _, path := range []int{-1, 3} {
					l := byPowers(count)
					p := &l.certs[place]
					p.ca, p.use, p.path = c.ca, c.use, path
					what := fmt.Sprintf("of %d, place %d: %s", count, place, c.what)
					l.answered(t, what, c.want)
					l.anchors = append(l.anchors, l.certs[count-1])
					l.answered(t, what+", and the last one is an anchor", c.want)
				}
			}
		}
	}
}

// The first one may be whatever it is.
func TestP141TheFirstIsNotAsked(t *testing.T) {
	for count := 1; count <= 4; count++ {
		for _, use := range []string{"", toSign, toNothing, toAnother} {
			for _, ca := range []bool{false, true} {
				for _, path := range []int{-1, 0, 1} {
					l := byPowers(count)
					l.certs[0].ca, l.certs[0].use, l.certs[0].path = ca, use, path
					l.taken(t, fmt.Sprintf("a first one of Ca %v, use %s, Path %d", ca, use, path))
				}
			}
		}
	}
}

// Each is named by the one ahead of it, byte by byte.
func TestP141Issuer(t *testing.T) {
	for count := 2; count <= 4; count++ {
		for place := range count - 1 {
			l := mixed(count)
			right := l.certs[place].issuer
			for _, other := range []string{"", right[1:], right[:len(right)-1], right + "a", right + "\x00", right + "|more", "more|" + right, "Name" + right[4:], l.certs[place].subject, l.certs[place+1].issuer, "nobody"} {
				l.certs[place].issuer = other
				l.refused(t, fmt.Sprintf("of %d, place %d: by %q, not %q", count, place, other, right), api.ErrIssuer)
			}
			for _, both := range []string{"", "x", "name a", "name|of|pieces"} {
				l.certs[place].issuer, l.certs[place+1].subject = both, both
				l.taken(t, fmt.Sprintf("of %d, place %d: by %q", count, place, both))
			}
		}
	}
}

// authors: who may sign, of each kind and curve.
func authors() []author {
	return []author{powers(0), powers(1), points(0), points(1), pointed{0, 7}, pointed{2, 11}}
}

// Keys of each kind vouch for keys of each kind.
func TestP141EachKeyVouches(t *testing.T) {
	for _, above := range authors() {
		for _, below := range authors() {
			l := byPowers(2)
			l.certs[0].owner, l.certs[0].by, l.certs[1].owner = below, above, above
			l.taken(t, fmt.Sprintf("%v vouches for %v", above, below))
		}
	}
}

// An alg of the other kind than the key that signed: also where the signature is the key's.
func TestP141AlgOfTheOtherKind(t *testing.T) {
	for _, above := range authors() {
		for count := 2; count <= 4; count++ {
			for place := range count - 1 {
				l := byPowers(count)
				l.certs[place].by, l.certs[place+1].owner = above, above
				// What the others are signed by stays right.
				l.certs[place].lied = true
				l.refused(t, fmt.Sprintf("of %d, place %d: another kind than %v", count, place, above), api.ErrSig)
			}
		}
	}
}

// A signature that is none of the key that stands above.
func TestP141WrongSignatures(t *testing.T) {
	for _, lineOfCount := range []func(int) *line{byPowers, mixed} {
		for count := 2; count <= 4; count++ {
			for place := range count - 1 {
				what := fmt.Sprintf("of %d, place %d: ", count, place)
				l := lineOfCount(count)
				l.certs[place].forged = true
				l.refused(t, what+"a signature of other bytes", api.ErrSig)
				for _, other := range []author{powers(5), points(6)} {
					l = lineOfCount(count)
					l.certs[place].by = other
					l.refused(t, what+"signed by another one", api.ErrSig)
					l = lineOfCount(count)
					l.certs[place+1].owner = other
					l.refused(t, what+"another one's key stands above", api.ErrSig)
				}
			}
		}
	}
}

// A certificate may stand twice, where it vouches for itself.
func TestP141OneThatVouchesForItself(t *testing.T) {
	self := byPowers(1).anchors[0]
	self.issuer, self.by = self.subject, self.owner
	for count := 1; count <= 4; count++ {
		l := &line{now: now}
		for range count {
			l.certs = append(l.certs, self)
		}
		l.refused(t, "one that vouches for itself, without an anchor", api.ErrAnchor)
		l.anchors = []paper{self}
		l.taken(t, "one that vouches for itself")
		for at := range l.certs {
			l.certs[at].path = 0
		}
		want := api.OK
		if count > 2 {
			want = api.ErrCa
		}
		l.answered(t, fmt.Sprintf("one with Path 0 that vouches for itself, %d times", count), want)
	}
}

// The key of the one ahead isn't what vouches for the next one, nor one further behind.
func TestP141JustTheNextVouches(t *testing.T) {
	for place := range 2 {
		l := byPowers(4)
		l.certs[place].issuer, l.certs[place].by = l.certs[place+2].subject, l.certs[place+2].owner
		l.refused(t, "vouched for by the next but one", api.ErrIssuer)
		l.certs[place+1].subject = l.certs[place+2].subject
		l.refused(t, "named as the next, signed by the next but one", api.ErrSig)
	}
	l := byPowers(3)
	l.certs[0], l.certs[1] = l.certs[1], l.certs[0]
	l.refused(t, "in another order", api.ErrCa)
	l.certs[0], l.certs[1] = l.certs[1], l.certs[0]
	l.certs[1], l.certs[2] = l.certs[2], l.certs[1]
	l.refused(t, "in another order, behind the first", api.ErrIssuer)
}
