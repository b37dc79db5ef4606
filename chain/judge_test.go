package chain_test

import (
	"bytes"
	"fmt"
	"math/rand"
	"slices"
	"testing"

	"latchkey/api"
	"latchkey/cert"
	"latchkey/sigs"
)

// judged: by what error a line should be answered, from what its papers were made of.
func (l *line) judged() api.Errno {
	if len(l.certs) < 1 || len(l.certs) > 4 {
		return api.ErrMany
	}
	for _, p := range l.certs {
		if p.broken != api.OK {
			return p.broken
		}
	}
	for place := range l.certs {
		if err := l.judgedAt(place); err != api.OK {
			return err
		}
	}
	last := l.certs[len(l.certs)-1]
	for _, p := range l.anchors {
		// Papers that differ may be the same bytes: a path that no Ca tells.
		if bytes.Equal(p.form(), last.form()) {
			return api.OK
		}
		longer := &line{slices.Concat(l.certs, []paper{p}), nil, l.now}
		if p.broken == api.OK && longer.judgedAt(len(l.certs)) == api.OK {
			return api.OK
		}
	}
	return api.ErrAnchor
}

// judgedAt: the first fault of the paper of that place, and of what it says of the one ahead.
func (l *line) judgedAt(place int) api.Errno {
	p := l.certs[place]
	if l.now < p.from || p.to < l.now {
		return api.ErrDate
	}
	if place == 0 {
		return api.OK
	}
	ahead, between := l.certs[place-1], place-1
	switch {
	case !p.ca || !p.signs() || p.path >= 0 && p.path < between:
		return api.ErrCa
	case ahead.issuer != p.subject:
		return api.ErrIssuer
	case ahead.lied != (ahead.by.byPowers() != p.owner.byPowers()), ahead.by != p.owner, ahead.forged:
		return api.ErrSig
	}
	return api.OK
}

// among: one of them.
func among[T any](draw *rand.Rand, l ...T) T { return l[draw.Intn(len(l))] }

// change: something of a paper is drawn anew; most of what it may become is right at some places.
func change(draw *rand.Rand, p *paper) {
	switch draw.Intn(10) {
	case 0:
		p.subject = among(draw, "name a", "name b", "name c", "nobody")
	case 1:
		p.issuer = among(draw, "name b", "name c", "name d", "nobody")
	case 2:
		p.from = among[uint64](draw, now-1, now, now+1)
	case 3:
		p.to = among[uint64](draw, now-1, now, now+1)
	case 4:
		p.owner = among(draw, powers(0), powers(1), points(1), points(2))
	case 5:
		p.by = among(draw, powers(0), powers(1), points(1), points(2))
	case 6:
		p.ca = !p.ca
	case 7:
		p.path = among(draw, -1, 0, 1, 2, 3)
	case 8:
		p.use = among(draw, "", toSign, toSignToo, toAnother)
	case 9:
		switch draw.Intn(3) {
		case 0:
			p.lied = true
		case 1:
			p.forged = true
		case 2:
			p.broken = among(draw, kinds()...)
		}
	}
}

// drawnLine: a line of up to five, with some changes, and with anchors that are right, changed, or of the line itself.
func drawnLine(draw *rand.Rand) *line {
	count := 1 + draw.Intn(4)
	if draw.Intn(50) == 0 {
		count = among(draw, 0, 5)
	}
	l := among(draw, byPowers, mixed)(count)
	for range draw.Intn(3) {
		if count > 0 {
			change(draw, &l.certs[draw.Intn(count)])
		}
	}
	good := l.anchors[0]
	l.anchors = nil
	for range draw.Intn(4) {
		p := good
		if draw.Intn(2) == 0 && count > 0 {
			p = l.certs[draw.Intn(count)]
		}
		for range draw.Intn(3) {
			change(draw, &p)
		}
		l.anchors = append(l.anchors, p)
	}
	return l
}

// Drawn lines, by what they were made of.
func TestP141DrawnLines(t *testing.T) {
	t.Parallel()
	draw, seen := rand.New(rand.NewSource(14)), map[api.Errno]int{}
	for at := range 2500 {
		l := drawnLine(draw)
		want := l.judged()
		seen[want]++
		l.answered(t, fmt.Sprintf("drawn line %d", at), want)
	}
	for _, err := range append(kinds(), api.OK, api.ErrMany, api.ErrDate, api.ErrCa, api.ErrIssuer, api.ErrSig, api.ErrAnchor) {
		if seen[err] < 8 {
			t.Errorf("error %d came just %d times", err, seen[err])
		}
	}
}

// judgedBytes: by what error bytes should be answered, by the layers below, from the last to the first.
func judgedBytes(certs, anchors [][]byte, curves []api.Curve, now uint64) (first api.Cert, err api.Errno) {
	if len(certs) == 0 || len(certs) > 4 {
		return api.Cert{}, api.ErrMany
	}
	// What comes later stands ahead in the chapter's order, and writes over it.
	err = api.ErrAnchor
	read := make([]api.Cert, len(certs))
	errs := make([]api.Errno, len(certs))
	for place, b := range certs {
		read[place], errs[place] = cert.Parse(b, curves)
	}
	for _, b := range anchors {
		above, unread := cert.Parse(b, curves)
		if bytes.Equal(b, certs[len(certs)-1]) || unread == api.OK && faultOf(append(slices.Clone(read), above), len(read), curves, now) == api.OK {
			err = api.OK
		}
	}
	for place := len(certs) - 1; place >= 0; place-- {
		if fault := faultOf(read, place, curves, now); fault != api.OK {
			err = fault
		}
	}
	for _, unread := range slices.Backward(errs) {
		if unread != api.OK {
			err = unread
		}
	}
	if err != api.OK {
		return api.Cert{}, err
	}
	return read[0], api.OK
}

// faultOf: the first fault of the certificate of that place.
func faultOf(read []api.Cert, place int, curves []api.Curve, now uint64) (err api.Errno) {
	above := read[place]
	if place > 0 {
		below := read[place-1]
		err = sigs.Verify(curves, above.Key, below.Signed, below.Sig)
		if (below.Alg == -257) != (above.Key.Kind == api.KRsa) {
			err = api.ErrSig
		}
		if string(below.Issuer) != string(above.Subject) {
			err = api.ErrIssuer
		}
		if !above.Ca || !above.Sign || above.Path != -1 && above.Path+1 < place {
			err = api.ErrCa
		}
	}
	if now < above.From || above.To < now {
		err = api.ErrDate
	}
	return err
}

// checksJudged: those bytes are answered as judgedBytes says.
func checksJudged(t *testing.T, what string, certs, anchors [][]byte, curves []api.Curve, now uint64) {
	t.Helper()
	want, err := judgedBytes(certs, anchors, curves, now)
	checks(t, what, certs, anchors, curves, now, want, err)
}

// Each byte of a certificate or an anchor is another one.
func TestP141EachByte(t *testing.T) {
	t.Parallel()
	l := lineOf(2, powers(0), points(1))
	certs, anchors := forms(l.certs), forms(l.anchors)
	all := slices.Concat(certs, anchors)
	for which, b := range all {
		for at := range b {
			for _, by := range []byte{1, 0x84} {
				b[at] ^= by
				checksJudged(t, fmt.Sprintf("%d, byte %d changed by %x", which, at, by), certs, anchors, three(), now)
				checksJudged(t, fmt.Sprintf("%d, byte %d changed by %x, no curves", which, at, by), certs, anchors, nil, now)
				b[at] ^= by
			}
		}
	}
	l.taken(t, "as it was")
}

// P1: whatever is handed in, the call answers, and as it should.
func TestP1DrawnArguments(t *testing.T) {
	t.Parallel()
	draw := rand.New(rand.NewSource(3))
	var all [][]byte
	for _, l := range lines() {
		all = append(all, slices.Concat(forms(l.certs), forms(l.anchors))...)
	}
	list := func() [][]byte {
		var out [][]byte
		for range draw.Intn(6) {
			b := slices.Clone(all[draw.Intn(len(all))])
			switch draw.Intn(5) {
			case 0:
				b = make([]byte, draw.Intn(30))
				draw.Read(b)
			case 1:
				b = b[:draw.Intn(len(b)+1)]
			case 2:
				b[draw.Intn(len(b))] ^= byte(1 + draw.Intn(255))
			}
			out = append(out, b)
		}
		return out
	}
	for range 3000 {
		moment := among[uint64](draw, 0, now, now, now, 1<<63, 1<<64-1)
		curves := three()[:among(draw, 0, 1, 2, 3, 3, 3)]
		checksJudged(t, "drawn", list(), list(), curves, moment)
	}
}
