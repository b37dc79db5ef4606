package chain_test

import (
	"slices"
	"testing"

	"latchkey/api"
	"latchkey/chain"
)

// args: what Check may be handed.
type args struct {
	certs, anchors [][]byte
	curves         []api.Curve
	now            uint64
}

// roomyList: the same list in memory of its own with other things in its spare room.
func roomyList[T any](l []T, spare ...T) []T { return slices.Concat(l, spare)[:len(l)] }

// full: a list with its spare room.
func full[T any](l []T) []T { return l[:cap(l)] }

// listsOfCurve: all lists of numbers in it.
func listsOfCurve(c *api.Curve) []*api.Nat {
	return []*api.Nat{(*api.Nat)(&c.Oid), &c.P, &c.A, &c.B, &c.Gx, &c.Gy, &c.N}
}

// paddedCurves: the curves with limbs of 0 above the greatest one of each number.
func paddedCurves(curves []api.Curve) []api.Curve {
	out := slices.Clone(curves)
	for at := range out {
		for _, n := range listsOfCurve(&out[at])[1:] {
			*n = append(slices.Clone(*n), 0, 0)
		}
	}
	return out
}

// roomyRows: the same rows in memory of their own; what stands in the spare room would be right there too.
func roomyRows(rows [][]byte) [][]byte {
	out := roomyList(rows, forms(byPowers(4).certs)...)
	for at := range out {
		out[at] = roomyList(out[at], 5, 0, 0x30, 0)
	}
	return out
}

// roomy: the same in memory of its own, with spare room behind each list in which others stand that would go on.
func (a args) roomy() args {
	curves := slices.Clone(a.curves)
	for at := range curves {
		for _, n := range listsOfCurve(&curves[at]) {
			*n = roomyList(*n, 11, 12, 13)
		}
	}
	return args{roomyRows(a.certs), roomyRows(a.anchors), roomyList(curves, three()...), a.now}
}

// cells: all numbers of the arguments, spare room included, as a list.
func (a args) cells() []uint64 {
	var out []uint64
	for _, c := range full(a.curves) {
		out = append(out, uint64(c.Alg), uint64(c.Crv))
		for _, n := range listsOfCurve(&c) {
			out = append(out, full(*n)...)
		}
	}
	for _, row := range slices.Concat(full(a.certs), full(a.anchors)) {
		out = append(out, uint64(len(row)))
		for _, b := range full(row) {
			out = append(out, uint64(b))
		}
	}
	return out
}

// spoilList: writes over a list, spare room included.
func spoilList[T any](l []T, by T) {
	for at := range full(l) {
		full(l)[at] = by
	}
}

// spoil: writes over all that the arguments stand in.
func (a args) spoil() {
	for _, c := range full(a.curves) {
		for _, n := range listsOfCurve(&c) {
			spoilList(*n, 0xdead)
		}
	}
	for _, row := range slices.Concat(full(a.certs), full(a.anchors)) {
		spoilList(row, 0xee)
	}
	spoilList(a.curves, api.Curve{Alg: 99})
	spoilList(a.certs, nil)
	spoilList(a.anchors, nil)
}

// answer: all that a call tells.
type answer struct {
	c   api.Cert
	err api.Errno
}

func (a args) check() answer {
	c, err := chain.Check(a.certs, a.anchors, a.curves, a.now)
	return answer{c, err}
}

func (a answer) same(b answer) bool { return same(a.c, b.c) && a.err == b.err }

// bytesOf and numbersOf: all lists of the answer.
func (a *answer) bytesOf() []*[]byte {
	return []*[]byte{&a.c.Signed, &a.c.Issuer, &a.c.Subject, &a.c.Model, &a.c.Sig}
}

func (a *answer) numbersOf() []*api.Nat {
	k := &a.c.Key
	return []*api.Nat{&k.Point.X, &k.Point.Y, &k.Rsa.N, &k.Rsa.E}
}

// spoil: writes over all lists of the answer.
func (a *answer) spoil() {
	for _, b := range a.bytesOf() {
		spoilList(*b, 0xee)
	}
	for _, n := range a.numbersOf() {
		spoilList(*n, 0xdead)
	}
}

// handed: arguments that lead along each way through the call, made anew each time.
func handed() []args {
	var out []args
	hand := func(l *line) { out = append(out, args{forms(l.certs), forms(l.anchors), three(), l.now}) }
	for _, l := range lines() {
		hand(l)
		hand(&line{l.certs, l.certs, now})
		hand(&line{l.certs, slices.Concat(l.certs[:len(l.certs)-1], l.anchors), now})
		first := &line{slices.Clone(l.certs), l.anchors, now}
		first.certs[0].ca, first.certs[0].path, first.certs[0].model = true, 3, false
		hand(first)
	}
	for _, f := range faults() {
		l := byPowers(4)
		f.do(l)
		hand(l)
	}
	// Lists of an answer that are alike.
	alike := mixed(2)
	alike.certs[0].subject, alike.certs[0].issuer, alike.certs[1].subject = "same", "same", "same"
	hand(alike)
	l := mixed(4)
	return append(out, args{forms(l.certs), forms(l.anchors), paddedCurves(three()), now}, args{forms(l.certs), forms(l.anchors), nil, now}, args{})
}

func TestR6ArgumentsStayAsTheyAre(t *testing.T) {
	for at, h := range handed() {
		a := h.roomy()
		before := a.cells()
		got := a.check()
		got.spoil()
		if !slices.Equal(a.cells(), before) {
			t.Errorf("%d: an argument was changed, or shares memory with the answer", at)
		}
	}
}

func TestR6AnswersStayAsTheyAre(t *testing.T) {
	for at, h := range handed() {
		want := handed()[at].check()
		a := h.roomy()
		got := a.check()
		a.spoil()
		if !got.same(want) {
			t.Errorf("%d: an argument's change, or its spare room, changed the answer", at)
		}
		got.spoil()
		if again := h.check(); !again.same(want) {
			t.Errorf("%d: an answer's change changed the next answer", at)
		}
	}
}

// One list of an answer is written over, spare room included, and the others stay.
func TestR6ListsOfAnAnswerAreApart(t *testing.T) {
	for at, h := range handed() {
		want := h.check()
		for list := range want.bytesOf() {
			got := h.check()
			spoilList(*got.bytesOf()[list], 0xee)
			*got.bytesOf()[list] = *want.bytesOf()[list]
			if !got.same(want) {
				t.Errorf("%d: list %d of bytes shares memory with another one", at, list)
			}
		}
		for list := range want.numbersOf() {
			got := h.check()
			spoilList(*got.numbersOf()[list], 0xdead)
			*got.numbersOf()[list] = *want.numbersOf()[list]
			if !got.same(want) {
				t.Errorf("%d: list %d of numbers shares memory with another one", at, list)
			}
		}
	}
}

// A list that is empty may be nil or empty.
func TestR5NilOrEmpty(t *testing.T) {
	l := byPowers(1)
	certs, anchors, want := forms(l.certs), forms(l.anchors), l.certs[0].cert()
	for _, none := range [][][]byte{nil, {}} {
		for _, curves := range [][]api.Curve{nil, {}, three()} {
			checks(t, "no certificates", none, anchors, curves, now, api.Cert{}, api.ErrMany)
			checks(t, "no anchors", certs, none, curves, now, api.Cert{}, api.ErrAnchor)
			checks(t, "a right one", certs, anchors, curves, now, want, api.OK)
		}
	}
	for _, empty := range [][]byte{nil, {}} {
		checks(t, "a certificate of no bytes", [][]byte{empty}, anchors, three(), now, api.Cert{}, api.ErrCert)
		checks(t, "a certificate and an anchor of no bytes", [][]byte{empty}, [][]byte{empty}, three(), now, api.Cert{}, api.ErrCert)
		checks(t, "an anchor of no bytes", certs, [][]byte{empty}, three(), now, api.Cert{}, api.ErrAnchor)
	}
}

// What was asked ahead changes no answer.
func TestR8OneArgumentOneAnswer(t *testing.T) {
	all := handed()
	var want []answer
	for _, h := range all {
		want = append(want, h.check())
	}
	for at, h := range slices.Backward(all) {
		if got := h.check(); !got.same(want[at]) {
			t.Errorf("%d: another answer than ahead", at)
		}
	}
}
