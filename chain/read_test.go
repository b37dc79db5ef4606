package chain_test

import (
	"slices"
	"testing"

	"latchkey/api"
	"latchkey/chain"
)

// kinds: as what a certificate may be refused by chapter 13.
func kinds() []api.Errno {
	return []api.Errno{api.ErrCert, api.ErrAlg, api.ErrTime, api.ErrKey, api.ErrExt}
}

// The chapter's example: one certificate that is an anchor itself.
func TestP141Example(t *testing.T) {
	l := byPowers(1)
	l.anchors = l.certs
	l.taken(t, "an anchor itself")
	l.now = l.certs[0].to + 1
	l.refused(t, "an anchor that isn't in time any more", api.ErrDate)
}

// One to four are taken.
func TestP141OneToFour(t *testing.T) {
	for _, l := range lines() {
		l.taken(t, "a right line")
	}
}

// None, and more than four, are refused, whatever they are.
func TestP141NoneAndFive(t *testing.T) {
	anchors := forms(byPowers(1).anchors)
	for _, certs := range [][][]byte{nil, {}} {
		for _, anchors := range [][][]byte{nil, anchors, {nil}} {
			checks(t, "none", certs, anchors, three(), now, api.Cert{}, api.ErrMany)
		}
	}
	for _, count := range []int{5, 6, 40} {
		l := byPowers(count)
		l.refused(t, "a right line of too many", api.ErrMany)
		l.anchors = l.certs
		l.refused(t, "too many that are anchors", api.ErrMany)
		l.certs[0].broken = api.ErrExt
		l.refused(t, "too many with one that can't be read", api.ErrMany)
		checks(t, "too many of no bytes", make([][]byte, count), nil, nil, 0, api.Cert{}, api.ErrMany)
	}
}

// One that can't be read, at each place.
func TestP141OneThatCantBeRead(t *testing.T) {
	for count := 1; count <= 4; count++ {
		for place := range count {
			for _, err := range kinds() {
				l := byPowers(count)
				l.certs[place].broken = err
				l.refused(t, "one that can't be read", err)
				l.anchors = append(l.anchors, l.certs[count-1])
				l.refused(t, "one that can't be read, and the last one is an anchor", err)
			}
		}
	}
}

// Of two that can't be read the first one's error is told.
func TestP141TwoThatCantBeRead(t *testing.T) {
	for first := range 4 {
		for second := first + 1; second < 4; second++ {
			for _, err := range kinds() {
				for _, other := range kinds() {
					l := byPowers(4)
					l.certs[first].broken, l.certs[second].broken = err, other
					l.refused(t, "two that can't be read", err)
				}
			}
		}
	}
}

// One that can't be read comes ahead of all that those ahead of it are refused for.
func TestP141ReadAheadOfAll(t *testing.T) {
	for place := 1; place < 4; place++ {
		for _, err := range kinds() {
			l := byPowers(4)
			for at := range l.certs {
				l.certs[at].to = now - 1
			}
			l.certs[place].broken = err
			l.refused(t, "one that can't be read behind one that isn't in time", err)
			l = byPowers(4)
			for at := range l.certs {
				l.certs[at].ca, l.certs[at].issuer, l.certs[at].forged = false, "nobody", true
			}
			l.certs[place].broken, l.anchors = err, nil
			l.refused(t, "one that can't be read behind one that nobody vouches for", err)
		}
	}
}

// Bytes that are no certificate at all.
func TestP141NoCertificate(t *testing.T) {
	right := forms(byPowers(4).certs)
	for place := range 4 {
		whole := right[place]
		for _, b := range [][]byte{nil, {}, {0x30}, {0x30, 0}, {5, 0}, make([]byte, 4097), whole[:len(whole)-1], append(slices.Clone(whole), 0), whole[1:]} {
			certs := slices.Clone(right)
			certs[place] = b
			checks(t, "no certificate", certs, certs, three(), now, api.Cert{}, api.ErrCert)
		}
	}
}

// Without curves just keys by powers are read.
func TestP141NoCurves(t *testing.T) {
	for _, curves := range [][]api.Curve{nil, {}} {
		for count := 1; count <= 4; count++ {
			l := byPowers(count)
			checks(t, "no curves, no points", forms(l.certs), forms(l.anchors), curves, now, l.certs[0].cert(), api.OK)
			for place := range count {
				l := byPowers(count)
				l.certs[place].owner = points(0)
				checks(t, "no curves, a point", forms(l.certs), forms(l.anchors), curves, now, api.Cert{}, api.ErrAlg)
			}
			l = byPowers(count)
			l.certs[count-1].by, l.anchors[0].owner = points(0), points(0)
			checks(t, "no curves, a point's anchor", forms(l.certs), forms(l.anchors), curves, now, api.Cert{}, api.ErrAnchor)
			l.anchors = append(l.anchors, l.certs[count-1])
			checks(t, "no curves, an anchor signed by a point", forms(l.certs), forms(l.anchors), curves, now, l.certs[0].cert(), api.OK)
		}
	}
}

// What is answered is the first one, whole, by the chapter's names.
func TestP141TheFirstOne(t *testing.T) {
	for count := 1; count <= 4; count++ {
		l := mixed(count)
		for at := range l.certs {
			p := &l.certs[at]
			p.from, p.to, p.path, p.model = now-uint64(at)-1, now+uint64(at)+1, at, at%2 == 1
		}
		l.taken(t, "a line whose certificates are all different")
		l.certs[0].ca, l.certs[0].path, l.certs[0].use, l.certs[0].model = true, 200, toSignToo, true
		l.taken(t, "a first one that is a Ca")
	}
	l := byPowers(2)
	got, err := chain.Check(forms(l.certs), forms(l.anchors), three(), now)
	if err != api.OK || string(got.Subject) != "\x0c\x06name a" || string(got.Issuer) != "\x0c\x06name b" || got.From != now-1000 || got.To != now+1000 ||
		!sameKey(got.Key, powers(0).key()) || got.Ca || got.Sign || got.Path != -1 || !slices.Equal(got.Model, unhex(model)) || got.Alg != -257 || len(got.Sig) != 62 {
		t.Errorf("the first one: %v, error %d", got, err)
	}
}

// A curve's place, of several, is that of the first with the OID.
func TestP141CurvesPlaces(t *testing.T) {
	l := lineOf(3, points(0), points(1))
	other := small()
	other.Oid = middle().Oid
	want := l.certs[0].cert()
	for place, curves := range [][]api.Curve{{middle()}, {small(), middle()}, {p256(), small(), middle(), other}} {
		want.Key.Curve = place
		checks(t, "curves of other places", forms(l.certs), forms(l.anchors), curves, now, want, api.OK)
	}
	checks(t, "another curve of that OID", forms(l.certs), forms(l.anchors), []api.Curve{other, middle()}, now, api.Cert{}, api.ErrKey)
}
