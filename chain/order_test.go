package chain_test

import (
	"fmt"
	"testing"

	"latchkey/api"
)

// fault: one thing that is wrong with a line of four, and what it is told as.
type fault struct {
	what   string
	want   api.Errno
	unread int // which certificate it makes one that can't be read, counted from 1 on; 0: none
	do     func(l *line)
}

// readFaults: a certificate that can't be read, at each place.
func readFaults() []fault {
	var out []fault
	for place := range 4 {
		for at, err := range kinds() {
			// Other kinds at other places, so that it is seen which is told: of one certificate there is just one.
			if at == place || at == place+1 {
				out = append(out, fault{fmt.Sprintf("place %d can't be read (error %d)", place, err), err, place + 1, func(l *line) {
					if l.certs[place].broken == api.OK {
						l.certs[place].broken = err
					}
				}})
			}
		}
	}
	return out
}

// askFaults: what a certificate of that place is refused for, in the chapter's order.
func askFaults(place int) []fault {
	// What a fault changes: the certificate of that place, or the one ahead of it.
	at := func(what string, want api.Errno, do func(p *paper)) fault {
		return fault{fmt.Sprintf("place %d %s", place, what), want, 0, func(l *line) { do(&l.certs[place]) }}
	}
	ahead := func(what string, want api.Errno, do func(p *paper)) fault {
		return fault{fmt.Sprintf("place %d %s", place-1, what), want, 0, func(l *line) { do(&l.certs[place-1]) }}
	}
	out := []fault{
		at("isn't in time yet", api.ErrDate, func(p *paper) { p.from = now + 1 }),
		at("isn't in time any more", api.ErrDate, func(p *paper) { p.to = now - 1 }),
	}
	if place == 0 {
		return out
	}
	out = append(out,
		at("is no Ca", api.ErrCa, func(p *paper) { p.ca = false }),
		at("may not sign", api.ErrCa, func(p *paper) { p.use = toAnother }))
	if place > 1 {
		out = append(out, at("has a path that is too low", api.ErrCa, func(p *paper) { p.path = place - 2 }))
	}
	return append(out,
		ahead("is by nobody", api.ErrIssuer, func(p *paper) { p.issuer = "nobody" }),
		ahead("has an alg of the other kind", api.ErrSig, func(p *paper) { p.lied = true }),
		ahead("has a signature of other bytes", api.ErrSig, func(p *paper) { p.forged = true }),
		at("has another key", api.ErrSig, func(p *paper) { p.owner = powers(5) }))
}

// anchorFaults: why no anchor vouches for the line.
func anchorFaults() []fault {
	out := []fault{
		{"no anchors", api.ErrAnchor, 0, func(l *line) { l.anchors = nil }},
		{"the last one is by nobody", api.ErrAnchor, 0, func(l *line) { l.certs[3].issuer = "no one else" }},
		{"the last one's signature is wrong", api.ErrAnchor, 0, func(l *line) { l.certs[3].forged = true }},
	}
	for _, f := range flaws() {
		out = append(out, fault{"the anchor " + f.what, api.ErrAnchor, 0, func(l *line) {
			for at := range l.anchors {
				f.do(&l.anchors[at], 4)
			}
		}})
	}
	return out
}

// faults: all of a line of four, in the chapter's order.
func faults() []fault {
	out := []fault{{"a fifth one", api.ErrMany, 0, func(l *line) { l.certs = append(l.certs, byPowers(1).certs[0]) }}}
	out = append(out, readFaults()...)
	for place := range 4 {
		out = append(out, askFaults(place)...)
	}
	return append(out, anchorFaults()...)
}

// Of two faults, within one certificate and of two of them, the one is told that the chapter's order names first.
func TestP141TheFirstOfTwo(t *testing.T) {
	all := faults()
	for at, first := range all {
		l := byPowers(4)
		first.do(l)
		l.refused(t, first.what, first.want)
		for _, second := range all[at+1:] {
			// Of one certificate chapter 13 tells the order.
			if first.unread > 0 && first.unread == second.unread {
				continue
			}
			for _, pair := range [][2]fault{{first, second}, {second, first}} {
				l := byPowers(4)
				pair[0].do(l)
				pair[1].do(l)
				l.refused(t, first.what+", and "+second.what, first.want)
			}
		}
	}
}

// All faults from one on at once: that one is told.
func TestP141TheFirstOfAll(t *testing.T) {
	all := faults()
	for at, first := range all {
		l := byPowers(4)
		for _, f := range all[at:] {
			f.do(l)
		}
		l.refused(t, first.what+", and all behind it", first.want)
	}
}
