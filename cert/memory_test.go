package cert_test

import (
	"math/rand"
	"slices"
	"testing"

	"latchkey/api"
	"latchkey/cert"
)

// args: what Parse may be handed.
type args struct {
	b      []byte
	curves []api.Curve
}

// roomyList: the same list in memory of its own with other things in its spare room.
func roomyList[T any](l []T, spare ...T) []T { return slices.Concat(l, spare)[:len(l)] }

// full: a list with its spare room.
func full[T any](l []T) []T { return l[:cap(l)] }

// listsOfCurve: all lists of numbers in it.
func listsOfCurve(c *api.Curve) []*api.Nat {
	return []*api.Nat{(*api.Nat)(&c.Oid), &c.P, &c.A, &c.B, &c.Gx, &c.Gy, &c.N}
}

// paddedCurves: the curves with limbs of 0 above the greatest one of each number.
func paddedCurves(curves []api.Curve) []api.Curve {
	out := slices.Clone(curves)
	for at := range out {
		for _, n := range listsOfCurve(&out[at])[1:] {
			*n = append(slices.Clone(*n), 0, 0)
		}
	}
	return out
}

// roomy: the same in memory of its own, with spare room behind each list in which others stand that would go on.
func (a args) roomy() args {
	curves := slices.Clone(a.curves)
	for at := range curves {
		for _, n := range listsOfCurve(&curves[at]) {
			*n = roomyList(*n, 11, 12, 13)
		}
	}
	return args{roomyList(a.b, 5, 0, 0x30, 0), roomyList(curves, three()...)}
}

// cells: all numbers of the arguments, spare room included, as a list.
func (a args) cells() []uint64 {
	var out []uint64
	for _, c := range full(a.curves) {
		out = append(out, uint64(c.Alg), uint64(c.Crv))
		for _, n := range listsOfCurve(&c) {
			out = append(out, full(*n)...)
		}
	}
	for _, b := range full(a.b) {
		out = append(out, uint64(b))
	}
	return out
}

// spoilList: writes over a list, spare room included.
func spoilList[T any](l []T, by T) {
	for at := range full(l) {
		full(l)[at] = by
	}
}

// spoil: writes over all that the arguments stand in.
func (a args) spoil() {
	for _, c := range full(a.curves) {
		for _, n := range listsOfCurve(&c) {
			spoilList(*n, 0xdead)
		}
	}
	spoilList(a.curves, api.Curve{Alg: 99})
	spoilList(a.b, 0xee)
}

// answer: all that a call tells.
type answer struct {
	c   api.Cert
	err api.Errno
}

func (a args) parse() answer {
	c, err := cert.Parse(a.b, a.curves)
	return answer{c, err}
}

func (a answer) same(b answer) bool { return same(a.c, b.c) && a.err == b.err }

// lists: one spoiler for each list of the answer.
func (a answer) lists() []func() {
	var out []func()
	for _, b := range [][]byte{a.c.Signed, a.c.Issuer, a.c.Subject, a.c.Model, a.c.Sig} {
		out = append(out, func() { spoilList(b, 0xee) })
	}
	k := a.c.Key
	for _, n := range []api.Nat{k.Point.X, k.Point.Y, k.Rsa.N, k.Rsa.E} {
		out = append(out, func() { spoilList(n, 0xdead) })
	}
	return out
}

func (a answer) spoil() {
	for _, do := range a.lists() {
		do()
	}
}

// handed: arguments that lead along each way through the call, made anew each time.
func handed() []args {
	var out []args
	for _, b := range originals() {
		out = append(out, args{b, three()}, args{b, paddedCurves(three())}, args{b, nil}, args{b[:len(b)-1], three()})
	}
	for _, byPowers := range []bool{false, true} {
		for _, f := range faults() {
			if f.fits(byPowers) {
				tree := faulty(byPowers)
				f.do(tree)
				out = append(out, args{tree.form(), three()})
			}
		}
	}
	// Lists of an answer that are empty, or alike.
	tree := fullPoint().set("issuer", "").set("subject", "").set("sig", "00")
	alike := fullPoint().set("issuer", "04 10"+model).set("subject", "04 10"+model).set("sig", "00"+model)
	twice := []api.Curve{small(), small()}
	return append(out, args{tree.form(), three()}, args{alike.form(), twice}, args{make([]byte, 4097), three()}, args{})
}

func TestR6ArgumentsStayAsTheyAre(t *testing.T) {
	for at, h := range handed() {
		a := h.roomy()
		before := a.cells()
		a.parse().spoil()
		if !slices.Equal(a.cells(), before) {
			t.Errorf("%d: an argument was changed, or shares memory with the answer", at)
		}
	}
}

func TestR6AnswersStayAsTheyAre(t *testing.T) {
	for at, h := range handed() {
		want := handed()[at].parse()
		a := h.roomy()
		got := a.parse()
		a.spoil()
		if !got.same(want) {
			t.Errorf("%d: an argument's change, or its spare room, changed the answer", at)
		}
		got.spoil()
		if again := h.parse(); !again.same(want) {
			t.Errorf("%d: an answer's change changed the next answer", at)
		}
	}
}

// One list of an answer is written over, spare room included, and the others stay.
func TestR6ListsOfAnAnswerAreApart(t *testing.T) {
	for at, h := range handed() {
		for list := range h.parse().lists() {
			got := h.parse()
			got.lists()[list]()
			if !onlyChanged(got.c, h.parse().c, list) {
				t.Errorf("%d: list %d shares memory with another one", at, list)
			}
		}
	}
}

// onlyChanged: whether two certificates are alike but for that list.
func onlyChanged(a, b api.Cert, list int) bool {
	for _, c := range []*api.Cert{&a, &b} {
		switch list {
		case 0:
			c.Signed = nil
		case 1:
			c.Issuer = nil
		case 2:
			c.Subject = nil
		case 3:
			c.Model = nil
		case 4:
			c.Sig = nil
		case 5:
			c.Key.Point.X = nil
		case 6:
			c.Key.Point.Y = nil
		case 7:
			c.Key.Rsa.N = nil
		case 8:
			c.Key.Rsa.E = nil
		}
	}
	return same(a, b)
}

// A list that is empty may be nil or empty.
func TestR5NilOrEmpty(t *testing.T) {
	for _, b := range [][]byte{nil, {}} {
		for _, curves := range [][]api.Curve{nil, {}, three()} {
			refusedOn(t, "no bytes", b, curves, api.ErrCert)
		}
	}
	for _, curves := range [][]api.Curve{nil, {}} {
		refusedOn(t, "no curves", fullPoint().form(), curves, api.ErrAlg)
		parsesOn(t, "no curves", fullPower().form(), curves, fully(barelyPower(), fullPower()))
	}
}

// What was asked ahead changes no answer.
func TestR8OneArgumentOneAnswer(t *testing.T) {
	for at, h := range handed() {
		want := h.parse()
		for _, between := range handed()[:40] {
			between.parse()
		}
		if got := h.parse(); !got.same(want) {
			t.Errorf("%d: another answer than ahead", at)
		}
	}
}

// P1: whatever is handed in, the call answers.
func TestP1DrawnArguments(t *testing.T) {
	draw, all := rand.New(rand.NewSource(2)), originals()
	for range 20000 {
		b := drawnBytes(draw, draw.Intn(60))
		// Beginnings that lead further in.
		switch draw.Intn(3) {
		case 0:
			b = piece(0x30, b...)
		case 1:
			original := all[draw.Intn(len(all))]
			at := draw.Intn(len(original))
			b = slices.Concat(original[:at], b, original[min(at+len(b), len(original)):])
		}
		judged(t, "drawn", b, three())
	}
}
