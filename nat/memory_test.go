package nat_test

import (
	"slices"
	"testing"

	"latchkey/api"
	"latchkey/nat"
)

// call: one way to call the package with two numbers; it answers all lists of the answer.
type call struct {
	name string
	do   func(a, b api.Nat) []api.Nat
}

// calls: those that take numbers and answer numbers.
func calls() []call {
	return []call{
		{"Norm", func(a, b api.Nat) []api.Nat { return []api.Nat{nat.Norm(a), nat.Norm(b)} }},
		{"Add", func(a, b api.Nat) []api.Nat { return []api.Nat{nat.Add(a, b)} }},
		{"Sub", func(a, b api.Nat) []api.Nat { d, _ := nat.Sub(a, b); return []api.Nat{d} }},
		{"Mul", func(a, b api.Nat) []api.Nat { return []api.Nat{nat.Mul(a, b)} }},
		{"Div", func(a, b api.Nat) []api.Nat { q, r, _ := nat.Div(a, b); return []api.Nat{q, r} }},
		{"Shift 0", func(a, b api.Nat) []api.Nat { return []api.Nat{nat.Shift(a, 0)} }},
		{"Shift 64", func(a, b api.Nat) []api.Nat { return []api.Nat{nat.Shift(a, 64)} }},
		{"Shift -1", func(a, b api.Nat) []api.Nat { return []api.Nat{nat.Shift(a, -1)} }},
		{"Cmp", func(a, b api.Nat) []api.Nat { nat.Cmp(a, b); return nil }},
		{"Len", func(a, b api.Nat) []api.Nat { nat.Len(a); return nil }},
		{"Bits", func(a, b api.Nat) []api.Nat { bitsOf(nat.Bits(a)); return nil }},
		{"Bytes", func(a, b api.Nat) []api.Nat { nat.Bytes(a, 64); return nil }},
	}
}

// roomy: the number in memory with spare room behind it, and all of that memory.
func roomy(a api.Nat) (api.Nat, api.Nat) {
	all := append(slices.Clone(a), 11, 12, 13, 14)
	return all[:len(a)], all
}

// spoil: writes over a list, its spare room included.
func spoil(a api.Nat) {
	a = a[:cap(a)]
	for i := range a {
		a[i] = 0xdead
	}
}

// numbers: those with which memory is looked at: a divisor of as many limbs, of fewer, of one; nothing to divide; limbs of 0 on top.
func numbers() [][2]api.Nat {
	return [][2]api.Nat{
		{{1, 2, 3}, {4, 5}},
		{{1, 2, 3}, {1, 2, 3}},
		{{1, 2, 3, 0}, {7, 0, 0}},
		{{1, 2}, {1, 2, 3}},
		{{top, 1 << 63}, {0, 1 << 63}},
		{{9}, {1}},
		{{0, 0}, {5}},
		{{5}, {0}},
		{{}, {}},
	}
}

func TestR6ArgumentsStayAsTheyAre(t *testing.T) {
	for _, c := range calls() {
		for _, p := range numbers() {
			a, wholeA := roomy(p[0])
			b, wholeB := roomy(p[1])
			beforeA, beforeB := slices.Clone(wholeA), slices.Clone(wholeB)
			for _, l := range c.do(a, b) {
				spoil(l)
			}
			if !slices.Equal(wholeA, beforeA) || !slices.Equal(wholeB, beforeB) {
				t.Errorf("%s(%x, %x): an argument was changed, or shares memory with an answer", c.name, p[0], p[1])
			}
		}
	}
}

func TestR6AnswersStayAsTheyAre(t *testing.T) {
	for _, c := range calls() {
		for _, p := range numbers() {
			a, _ := roomy(p[0])
			b, _ := roomy(p[1])
			want := c.do(p[0], p[1])
			got := c.do(a, b)
			spoil(a)
			spoil(b)
			for i := range got {
				if !slices.Equal(got[i], want[i]) {
					t.Errorf("%s(%x, %x): an argument's change changed the answer", c.name, p[0], p[1])
				}
				spoil(got[i])
			}
			if again := c.do(p[0], p[1]); !slices.EqualFunc(again, want, slices.Equal[api.Nat]) {
				t.Errorf("%s(%x, %x): an answer's change changed the next answer", c.name, p[0], p[1])
			}
		}
	}
}

func TestR6ListsOfOneAnswerShareNothing(t *testing.T) {
	for _, p := range numbers() {
		q, r, _ := nat.Div(p[0], p[1])
		keptQ, keptR := slices.Clone(q), slices.Clone(r)
		spoil(q)
		if !slices.Equal(r, keptR) {
			t.Errorf("Div(%x, %x): what is left shares memory with how often", p[0], p[1])
		}
		q, r, _ = nat.Div(p[0], p[1])
		spoil(r)
		if !slices.Equal(q, keptQ) {
			t.Errorf("Div(%x, %x): how often shares memory with what is left", p[0], p[1])
		}
	}
}

func TestR6OneListHandedInTwice(t *testing.T) {
	a := api.Nat{top, 3}
	if got := nat.Add(a, a); !slices.Equal(got, api.Nat{top - 1, 7}) {
		t.Errorf("Add: %x", got)
	}
	if got, ok := nat.Sub(a, a); !ok || len(got) != 0 {
		t.Errorf("Sub: %x %v", got, ok)
	}
	if got := nat.Mul(a, a); !slices.Equal(got, nat.Mul(a, slices.Clone(a))) {
		t.Errorf("Mul: %x", got)
	}
	if q, r, ok := nat.Div(a, a); !ok || !slices.Equal(q, api.Nat{1}) || len(r) != 0 {
		t.Errorf("Div: %x %x %v", q, r, ok)
	}
}

func TestR6BitsKeepsItsOwnLimbs(t *testing.T) {
	a, whole := roomy(api.Nat{6, 1})
	l := nat.Bits(a)
	want := bitsOf(l)
	spoil(whole)
	if got := bitsOf(l); !slices.Equal(got, want) {
		t.Error("Bits: a change of the argument changed what it tells")
	}
	b := api.Nat{6, 1}
	var got []bit
	for place, set := range nat.Bits(b) {
		b[0], b[1] = top, top
		got = append(got, bit{place, set})
	}
	if !slices.Equal(got, want) {
		t.Error("Bits: a change of the argument while it is gone over changed what it tells")
	}
}

func TestR6BytesAreNewMemory(t *testing.T) {
	whole := []byte{1, 2, 3, 4, 5, 6, 7, 8, 9, 10, 11, 12}
	before := slices.Clone(whole)
	a, _ := nat.Read(whole[:9])
	kept := slices.Clone(a)
	if !slices.Equal(whole, before) {
		t.Error("Read: its bytes were changed")
	}
	clear(whole)
	if !slices.Equal(a, kept) {
		t.Error("Read: a change of the bytes changed the answer")
	}
	b, _ := nat.Bytes(a, 9)
	clear(b)
	if !slices.Equal(a, kept) {
		t.Error("Bytes: a change of the answer changed the number")
	}
	b, _ = nat.Bytes(a, 9)
	spoil(a)
	if !slices.Equal(b, before[:9]) {
		t.Error("Bytes: a change of the number changed the answer")
	}
}
