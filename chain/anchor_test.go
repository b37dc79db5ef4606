package chain_test

import (
	"fmt"
	"strings"
	"testing"

	"latchkey/api"
)

// No anchors, of each count.
func TestP141NoAnchors(t *testing.T) {
	for _, l := range lines() {
		for _, none := range [][]paper{nil, {}} {
			l.anchors = none
			l.refused(t, "no anchors", api.ErrAnchor)
		}
	}
}

// The last one's very bytes, as the only anchor and among others.
func TestP141TheLastOneIsAnAnchor(t *testing.T) {
	for _, l := range lines() {
		last, other := l.certs[len(l.certs)-1], lineOf(1, powers(6)).certs[0]
		unread := other
		unread.broken = api.ErrTime
		for _, anchors := range [][]paper{{last}, {other, last}, {last, other}, {unread, last}, {unread, other, other, last}, {last, last}} {
			l.anchors = anchors
			l.taken(t, "the last one is an anchor")
		}
		l.anchors = []paper{other, unread}
		l.refused(t, "anchors that have nothing to do with it", api.ErrAnchor)
	}
}

// The last one as an anchor isn't asked whether it may stand above itself and the others.
func TestP141TheLastOneIsAnAnchorThatIsNoCa(t *testing.T) {
	for _, ca := range []bool{false, true} {
		for _, use := range []string{"", toSign, toAnother} {
			for _, path := range []int{-1, 0} {
				l := mixed(1)
				l.certs[0].ca, l.certs[0].use, l.certs[0].path = ca, use, path
				l.anchors = append(l.anchors[:0], byPowers(2).certs[1], l.certs[0])
				l.taken(t, "an anchor that may stand above none")
				l.certs[0].forged = true
				l.anchors[1].forged = true
				l.taken(t, "an anchor whose own signature is wrong")
			}
		}
	}
	for count := 2; count <= 4; count++ {
		l := byPowers(count)
		l.certs[count-1].path = count - 2
		l.anchors = l.certs[count-1:]
		l.taken(t, "an anchor that may stand above those ahead of it, but no more")
	}
}

// The bytes of another one than the last are no anchor.
func TestP141AnotherOneIsAnAnchor(t *testing.T) {
	for count := 2; count <= 4; count++ {
		for place := range count - 1 {
			l := mixed(count)
			l.anchors = []paper{l.certs[place]}
			l.refused(t, fmt.Sprintf("of %d, place %d is an anchor", count, place), api.ErrAnchor)
		}
		l := mixed(count)
		l.anchors = l.certs[:count-1]
		l.refused(t, "all but the last are anchors", api.ErrAnchor)
		l.anchors = l.certs
		l.taken(t, "all are anchors")
	}
}

// Bytes that are nearly the last one's.
func TestP141NearlyTheLastOne(t *testing.T) {
	l := byPowers(1)
	b := l.certs[0].form()
	for at := range b {
		other := l.certs[0].form()
		other[at] ^= 1
		checks(t, fmt.Sprintf("an anchor with another byte at %d", at), [][]byte{b}, [][]byte{other}, three(), now, api.Cert{}, api.ErrAnchor)
	}
	for _, other := range [][]byte{nil, b[:len(b)-1], append(l.certs[0].form(), 0), append([]byte{0}, b...), b[1:]} {
		checks(t, "an anchor of more or fewer bytes", [][]byte{b}, [][]byte{other}, three(), now, api.Cert{}, api.ErrAnchor)
	}
	checks(t, "the bytes themselves", [][]byte{b}, [][]byte{b}, three(), now, l.certs[0].cert(), api.OK)
}

// flaw: what alone makes an anchor one that doesn't vouch for a line of so many.
type flaw struct {
	what string
	do   func(p *paper, count int)
}

func flaws() []flaw {
	out := []flaw{
		{"isn't in time yet", func(p *paper, _ int) { p.from = now + 1 }},
		{"isn't in time any more", func(p *paper, _ int) { p.to = now - 1 }},
		{"is no Ca", func(p *paper, _ int) { p.ca = false }},
		{"may not sign", func(p *paper, _ int) { p.use = toAnother }},
		{"has a subject of more", func(p *paper, _ int) { p.subject += "a" }},
		{"has a subject of less", func(p *paper, _ int) { p.subject = strings.TrimPrefix(p.subject, "n") }},
		{"has a subject of more pieces", func(p *paper, _ int) { p.subject += "|more" }},
		{"has a subject of no pieces", func(p *paper, _ int) { p.subject = "" }},
		{"has another subject", func(p *paper, _ int) { p.subject = "nobody" }},
		{"has another key of powers", func(p *paper, _ int) { p.owner = powers(6) }},
		{"has another key of points", func(p *paper, _ int) { p.owner = points(9) }},
		{"has a path that is too low", func(p *paper, count int) { p.path = count - 2 }},
	}
	for _, err := range kinds() {
		out = append(out, flaw{fmt.Sprintf("can't be read (error %d)", err), func(p *paper, _ int) { p.broken = err }})
	}
	return out
}

// fits: whether a line of so many may have it: no path is too low for one certificate.
func (f flaw) fits(count int) bool { return f.what != "has a path that is too low" || count > 1 }

// An anchor that vouches for the last one, and one with each flaw alone, with a good one behind it and ahead of it.
func TestP141AnchorsThatVouch(t *testing.T) {
	t.Parallel()
	for _, right := range lines() {
		count, good := len(right.certs), right.anchors[0]
		for _, f := range flaws() {
			if !f.fits(count) {
				continue
			}
			bad := good
			f.do(&bad, count)
			for _, c := range []struct {
				anchors []paper
				want    api.Errno
			}{
				{[]paper{bad}, api.ErrAnchor}, {[]paper{bad, bad, bad, bad, bad}, api.ErrAnchor},
				{[]paper{bad, good}, api.OK}, {[]paper{good, bad}, api.OK}, {[]paper{bad, bad, good, bad}, api.OK},
				{[]paper{bad, right.certs[count-1]}, api.OK},
			} {
				l := &line{right.certs, c.anchors, now}
				l.answered(t, fmt.Sprintf("of %d: an anchor that %s", count, f.what), c.want)
			}
		}
	}
}

// Flaws of which each stands in another anchor: none of them vouches, till one does.
func TestP141AnchorsWithAllFlaws(t *testing.T) {
	for _, right := range lines() {
		good := right.anchors[0]
		l := &line{certs: right.certs, now: now}
		for _, f := range flaws() {
			bad := good
			if f.fits(len(right.certs)) {
				f.do(&bad, len(right.certs))
				l.anchors = append(l.anchors, bad)
			}
		}
		l.refused(t, "anchors with all flaws", api.ErrAnchor)
		l.anchors = append(l.anchors, good)
		l.taken(t, "anchors with all flaws, and a good one")
	}
}

// The last one's own faults, for which no anchor vouches for it.
func TestP141NoAnchorVouchesForTheLast(t *testing.T) {
	for count := 1; count <= 4; count++ {
		for what, do := range map[string]func(p *paper){
			"is by another one":                        func(p *paper) { p.issuer = "nobody" },
			"has an alg of the other kind":             func(p *paper) { p.lied = true },
			"has a signature of other bytes":           func(p *paper) { p.forged = true },
			"is signed by another one's powers":        func(p *paper) { p.by = powers(6) },
			"is signed by another one's points":        func(p *paper) { p.by = points(9) },
			"is signed by its own key":                 func(p *paper) { p.by = p.owner },
			"is by itself, but signed by the anchor's": func(p *paper) { p.issuer = p.subject },
		} {
			for _, l := range []*line{byPowers(count), mixed(count)} {
				if last := &l.certs[count-1]; last.owner.byPowers() == l.anchors[0].owner.byPowers() || what != "is signed by its own key" {
					do(last)
					l.refused(t, fmt.Sprintf("of %d: the last one %s", count, what), api.ErrAnchor)
					l.anchors = append(l.anchors, *last)
					l.taken(t, fmt.Sprintf("of %d: the last one %s, but is an anchor", count, what))
				}
			}
		}
	}
}

// An anchor's own time, from its first second to its last.
func TestP141AnchorsInTime(t *testing.T) {
	for _, c := range []struct {
		from, to uint64
		want     api.Errno
	}{
		{now, now + 1, api.OK}, {now - 1, now, api.OK}, {now, now, api.OK},
		{now + 1, now + 2, api.ErrAnchor}, {now - 2, now - 1, api.ErrAnchor}, {now + 1, now - 1, api.ErrAnchor},
	} {
		for count := 1; count <= 4; count++ {
			l := byPowers(count)
			l.anchors[0].from, l.anchors[0].to = c.from, c.to
			l.answered(t, fmt.Sprintf("an anchor from %d to %d at %d", c.from, c.to, now), c.want)
		}
	}
}

// An anchor may stand above all but the first: above none of one certificate, above three of four.
func TestP141AnchorsPath(t *testing.T) {
	for count := 1; count <= 4; count++ {
		for _, path := range []int{-1, 0, 1, 2, 3, 4, 128, 255} {
			want := api.ErrAnchor
			if path == -1 || path >= count-1 {
				want = api.OK
			}
			for _, l := range []*line{byPowers(count), mixed(count)} {
				l.anchors[0].path = path
				l.answered(t, fmt.Sprintf("of %d: an anchor with Path %d", count, path), want)
			}
		}
	}
}

// An anchor's own signature, and by whom it is, aren't asked.
func TestP141AnchorsAreTrusted(t *testing.T) {
	for _, l := range lines() {
		l.anchors[0].forged, l.anchors[0].lied, l.anchors[0].issuer, l.anchors[0].by = true, true, "nobody", points(9)
		l.taken(t, "an anchor that nobody vouches for")
		l.anchors[0].use = ""
		l.taken(t, "an anchor that tells no use")
	}
}

// Another certificate with the last one's name and key vouches for it, where it is signed by its own key.
func TestP141AnotherCertificateOfTheSameKey(t *testing.T) {
	for count := 1; count <= 4; count++ {
		l := byPowers(count)
		last := &l.certs[count-1]
		last.issuer, last.by, last.ca, last.use = last.subject, last.owner, true, toSign
		anchor := *last
		anchor.to++
		l.anchors = []paper{anchor}
		l.taken(t, "an anchor with the last one's name and key")
		l.anchors[0].owner = powers(6)
		l.refused(t, "an anchor with the last one's name and another key", api.ErrAnchor)
	}
}

// There is no limit to how many anchors there are.
func TestP141ManyAnchors(t *testing.T) {
	l := byPowers(2)
	good := l.anchors[0]
	other := good
	other.subject = "nobody"
	l.anchors = nil
	for range 100 {
		l.anchors = append(l.anchors, other)
	}
	l.refused(t, "a hundred anchors", api.ErrAnchor)
	l.anchors = append(l.anchors, good)
	l.taken(t, "a hundred anchors, and a good one")
}
