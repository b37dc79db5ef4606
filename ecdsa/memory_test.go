package ecdsa_test

import (
	"bytes"
	"slices"
	"testing"

	"latchkey/api"
	"latchkey/ecdsa"
)

// args: what a call may be handed.
type args struct {
	c    api.Curve
	q    api.Point
	hash []byte
	r, s api.Nat
}

// lists: all lists of numbers in it.
func (a *args) lists() []*api.Nat {
	oid := (*api.Nat)(&a.c.Oid)
	return []*api.Nat{oid, &a.c.P, &a.c.A, &a.c.B, &a.c.Gx, &a.c.Gy, &a.c.N, &a.q.X, &a.q.Y, &a.r, &a.s}
}

// memory: all that arguments stand in, spare room included.
type memory struct {
	lists []api.Nat
	hash  []byte
}

// roomy: the same in memory of its own with spare room behind each list, and that memory.
func (a args) roomy() (args, memory) {
	var whole memory
	for _, l := range a.lists() {
		all := append(slices.Clone(*l), 11, 12, 13, 14)
		*l = all[:len(*l)]
		whole.lists = append(whole.lists, all)
	}
	whole.hash = append(slices.Clone(a.hash), 21, 22, 23, 24)
	a.hash = whole.hash[:len(a.hash)]
	return a, whole
}

func (m memory) clone() memory {
	out := memory{hash: slices.Clone(m.hash)}
	for _, l := range m.lists {
		out.lists = append(out.lists, slices.Clone(l))
	}
	return out
}

func (m memory) same(other memory) bool {
	return bytes.Equal(m.hash, other.hash) && slices.EqualFunc(m.lists, other.lists, slices.Equal[api.Nat])
}

// spoil: writes over all of it.
func (m memory) spoil() {
	for i := range m.hash {
		m.hash[i] = 0xee
	}
	for _, l := range m.lists {
		spoil(l)
	}
}

// spoil: writes over a list, its spare room included.
func spoil(a api.Nat) {
	a = a[:cap(a)]
	for i := range a {
		a[i] = 0xdead
	}
}

// answer: all that a call may tell.
type answer struct {
	n  api.Nat
	is bool
}

func (a answer) same(b answer) bool { return slices.Equal(a.n, b.n) && a.is == b.is }

func (a answer) clone() answer { return answer{slices.Clone(a.n), a.is} }

// call: one way to call the package.
type call struct {
	name string
	do   func(a args) answer
}

// calls: all of the package's.
func calls() []call {
	return []call{
		{"Digest", func(a args) answer { return answer{n: ecdsa.Digest(a.c, a.hash)} }},
		{"Verify", func(a args) answer { return answer{is: ecdsa.Verify(a.c, a.q, a.hash, a.r, a.s)} }},
	}
}

// handed: arguments that lead along each way through the calls.
func handed() []args {
	c := small()
	q, hash, r, s := signature()
	key, sum, first, second := sample()
	none := c
	none.N = nil
	nothing := q
	nothing.Inf = true
	return []args{
		{c, q, hash, r, s},
		{paddedCurve(c), paddedPoint(q), append(hash, 1, 2, 3), padded(r), padded(s)},
		{c, q, []byte{0x40}, r, s},
		{c, q, nil, r, s},
		{c, q, []byte{0x87, 0x80}, r, s},
		{c, q, make([]byte, 512), s, r},
		{c, nothing, hash, r, s},
		{c, at(7, 76), hash, r, s},
		{c, q, hash, nil, s},
		{c, q, hash, r, c.N},
		{compositeN.curve(), at(3, 10), hash, api.Nat{3}, api.Nat{4}},
		{compositeP.curve(), at(0, 1), hash, api.Nat{3}, api.Nat{4}},
		{none, q, hash, r, s},
		{p256(), key, sum, first, second},
		{p256(), key, sum[1:], second, first},
		{},
	}
}

func TestR6ArgumentsStayAsTheyAre(t *testing.T) {
	for _, c := range calls() {
		for _, h := range handed() {
			a, whole := h.roomy()
			before := whole.clone()
			spoil(c.do(a).n)
			if !whole.same(before) {
				t.Errorf("%s %v: an argument was changed, or shares memory with the answer", c.name, h)
			}
		}
	}
}

func TestR6AnswersStayAsTheyAre(t *testing.T) {
	for _, c := range calls() {
		for _, h := range handed() {
			want := c.do(h).clone()
			a, whole := h.roomy()
			got := c.do(a)
			whole.spoil()
			if !got.same(want) {
				t.Errorf("%s %v: an argument's change, or its spare room, changed the answer", c.name, h)
			}
			spoil(got.n)
			if again := c.do(h); !again.same(want) {
				t.Errorf("%s %v: an answer's change changed the next answer", c.name, h)
			}
		}
	}
}

// One list in all places at once is read as so many of its own.
func TestR6OneListHandedInEverywhere(t *testing.T) {
	for _, n := range []api.Nat{{7}, {15, 0}, {top, 3}, {0, 0}, nil} {
		shared, apart := args{hash: []byte{5, 6}}, args{hash: []byte{5, 6}}
		list := slices.Clone(n)
		for _, l := range shared.lists() {
			*l = list
		}
		for _, l := range apart.lists() {
			*l = slices.Clone(n)
		}
		for _, c := range calls() {
			want := c.do(apart)
			if got := c.do(shared); !got.same(want) || !slices.Equal(list, n) {
				t.Errorf("%s with %v everywhere: %v, not %v; the list is %v", c.name, n, got, want, list)
			}
		}
	}
	g := api.Nat{1}
	q := api.Point{X: smallN.curve().Gx, Y: smallN.curve().Gy}
	if !ecdsa.Verify(smallN.curve(), q, nil, g, g) {
		t.Error("one list as r and s: refused")
	}
}

// A list that is empty may be nil or empty.
func TestR5NilOrEmpty(t *testing.T) {
	c := small()
	c.A = nil
	other := c
	other.A = api.Nat{}
	q := at(0, 2) // 4 is B
	for _, hash := range [][]byte{nil, {}} {
		if got := ecdsa.Digest(c, hash); len(got) != 0 {
			t.Errorf("Digest of no bytes: %v", got)
		}
		if ecdsa.Verify(c, q, hash, api.Nat{9}, api.Nat{4}) != ecdsa.Verify(other, q, hash, api.Nat{9}, api.Nat{4}) {
			t.Error("an A of nil and one of no limbs are answered unlike")
		}
		if ecdsa.Verify(c, q, hash, nil, nil) || ecdsa.Verify(c, q, hash, api.Nat{}, api.Nat{}) {
			t.Error("r and s of no limbs are taken")
		}
	}
}

// What was asked ahead changes no answer.
func TestR8OneArgumentOneAnswer(t *testing.T) {
	for _, c := range calls() {
		for _, h := range handed() {
			want := c.do(h).clone()
			for _, other := range calls() {
				for _, between := range handed()[:13] {
					other.do(between)
				}
				if got := c.do(h); !got.same(want) {
					t.Errorf("%s %v: another answer after %s", c.name, h, other.name)
				}
			}
		}
	}
}
