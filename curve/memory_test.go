package curve_test

import (
	"slices"
	"testing"

	"latchkey/api"
	"latchkey/curve"
)

// args: what a call may be handed.
type args struct {
	c    api.Curve
	k    api.Nat
	p, q api.Point
}

// lists: all lists of numbers in it.
func (a *args) lists() []*api.Nat {
	oid := (*api.Nat)(&a.c.Oid)
	return []*api.Nat{oid, &a.c.P, &a.c.A, &a.c.B, &a.c.Gx, &a.c.Gy, &a.c.N, &a.k, &a.p.X, &a.p.Y, &a.q.X, &a.q.Y}
}

// roomy: the same in memory of its own with spare room behind each list, and all of that memory.
func (a args) roomy() (args, []api.Nat) {
	var whole []api.Nat
	for _, l := range a.lists() {
		all := append(slices.Clone(*l), 11, 12, 13, 14)
		*l = all[:len(*l)]
		whole = append(whole, all)
	}
	return a, whole
}

// spoil: writes over a list, its spare room included.
func spoil(a api.Nat) {
	a = a[:cap(a)]
	for i := range a {
		a[i] = 0xdead
	}
}

// answer: all that a call may tell.
type answer struct {
	p   api.Point
	is  bool
	n   int
	err api.Errno
}

func (a answer) same(b answer) bool {
	return a.p.Inf == b.p.Inf && slices.Equal(a.p.X, b.p.X) && slices.Equal(a.p.Y, b.p.Y) && a.is == b.is && a.n == b.n && a.err == b.err
}

func (a answer) clone() answer {
	a.p.X, a.p.Y = slices.Clone(a.p.X), slices.Clone(a.p.Y)
	return a
}

// call: one way to call the package.
type call struct {
	name string
	do   func(a args) answer
}

// calls: all of the package's.
func calls() []call {
	return []call{
		{"On", func(a args) answer { return answer{is: curve.On(a.c, a.p)} }},
		{"Base", func(a args) answer { return answer{p: curve.Base(a.c)} }},
		{"Size", func(a args) answer { return answer{n: curve.Size(a.c)} }},
		{"Check", func(a args) answer { return answer{err: curve.Check(a.c)} }},
		{"Add", func(a args) answer { p, ok := curve.Add(a.c, a.p, a.q); return answer{p: p, is: ok} }},
		{"Mul", func(a args) answer { p, ok := curve.Mul(a.c, a.k, a.p); return answer{p: p, is: ok} }},
	}
}

// handed: arguments that lead along each way through the calls.
func handed() []args {
	c := small()
	none := c
	none.P = nil
	composite := over(15, 1)
	wide := p256()
	g := curve.Base(wide)
	full := api.Point{X: api.Nat{3}, Y: api.Nat{4, 5}, Inf: true}
	return []args{
		{c, api.Nat{5}, at(7, 75), at(7, 75)},
		{c, api.Nat{1}, at(7, 75), at(7, 176)},
		{c, nil, at(7, 75), nothing},
		{c, api.Nat{271}, nothing, at(7, 75)},
		{c, api.Nat{1, 0}, full, at(300, 400)},
		{c, api.Nat{1}, at(300, 400), full},
		{c, api.Nat{3}, full, full},
		{paddedCurve(c), api.Nat{6, 0}, paddedPoint(at(7, 75)), paddedPoint(at(9, 3))},
		{none, api.Nat{2}, at(7, 75), at(9, 3)},
		{composite, api.Nat{3}, at(1, 1), at(4, 1)},
		{wide, api.Nat{5}, g, g},
		{wide, api.Nat{1}, g, api.Point{X: g.Y, Y: g.X}},
		{},
	}
}

func TestR6ArgumentsStayAsTheyAre(t *testing.T) {
	for _, c := range calls() {
		for _, h := range handed() {
			a, whole := h.roomy()
			var before []api.Nat
			for _, l := range whole {
				before = append(before, slices.Clone(l))
			}
			got := c.do(a)
			spoil(got.p.X)
			spoil(got.p.Y)
			if !slices.EqualFunc(whole, before, slices.Equal[api.Nat]) {
				t.Errorf("%s %v: an argument was changed, or shares memory with the answer", c.name, h)
			}
		}
	}
}

func TestR6AnswersStayAsTheyAre(t *testing.T) {
	for _, c := range calls() {
		for _, h := range handed() {
			want := c.do(h).clone()
			a, whole := h.roomy()
			got := c.do(a)
			for _, l := range whole {
				spoil(l)
			}
			if !got.same(want) {
				t.Errorf("%s %v: an argument's change, or its spare room, changed the answer", c.name, h)
			}
			spoil(got.p.X)
			spoil(got.p.Y)
			if again := c.do(h); !again.same(want) {
				t.Errorf("%s %v: an answer's change changed the next answer", c.name, h)
			}
		}
	}
}

func TestR6NumbersOfOneAnswerShareNothing(t *testing.T) {
	one := api.Nat{7, 3}
	both := api.Point{X: one, Y: one}
	c := small()
	c.Gx, c.Gy = one, one
	more := args{c, api.Nat{1}, both, nothing}
	for _, each := range calls() {
		for _, h := range append(handed(), more) {
			want := each.do(h).clone()
			got := each.do(h)
			spoil(got.p.X)
			if !slices.Equal(got.p.Y, want.p.Y) {
				t.Errorf("%s %v: Y shares memory with X", each.name, h)
			}
			got = each.do(h)
			spoil(got.p.Y)
			if !slices.Equal(got.p.X, want.p.X) {
				t.Errorf("%s %v: X shares memory with Y", each.name, h)
			}
		}
	}
}

// One list in all places at once is read as so many of its own.
func TestR6OneListHandedInEverywhere(t *testing.T) {
	for _, n := range []api.Nat{{7}, {15, 0}, {top, 3}, {0, 0}, nil} {
		shared, apart := args{}, args{}
		list := slices.Clone(n)
		for _, l := range shared.lists() {
			*l = list
		}
		for _, l := range apart.lists() {
			*l = slices.Clone(n)
		}
		for _, c := range calls() {
			want := c.do(apart)
			if got := c.do(shared); !got.same(want) || !slices.Equal(list, n) {
				t.Errorf("%s with %v everywhere: %v, not %v; the list is %v", c.name, n, got, want, list)
			}
		}
	}
}

// What was asked ahead changes no answer.
func TestR8OneArgumentOneAnswer(t *testing.T) {
	for _, c := range calls() {
		for _, h := range handed() {
			want := c.do(h).clone()
			for _, other := range calls() {
				for _, between := range handed()[:10] {
					other.do(between)
				}
				if got := c.do(h); !got.same(want) {
					t.Errorf("%s %v: another answer after %s", c.name, h, other.name)
				}
			}
		}
	}
}
