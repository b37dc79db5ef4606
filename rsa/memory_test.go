package rsa_test

import (
	"bytes"
	"slices"
	"testing"

	"latchkey/api"
	"latchkey/rsa"
)

// args: what a call may be handed.
type args struct {
	k    api.RsaKey
	size int
	hash [32]byte
	sig  []byte
}

// memory: all that arguments stand in, spare room included.
type memory struct {
	n, e api.Nat
	sig  []byte
}

// roomy: the same in memory of its own with spare room behind each list, and that memory.
func (a args) roomy() (args, memory) {
	whole := memory{
		n:   append(slices.Clone(a.k.N), 11, 12, 13, 14),
		e:   append(slices.Clone(a.k.E), 11, 12, 13, 14),
		sig: append(slices.Clone(a.sig), 21, 22, 23, 24),
	}
	a.k = api.RsaKey{N: whole.n[:len(a.k.N)], E: whole.e[:len(a.k.E)]}
	a.sig = whole.sig[:len(a.sig)]
	return a, whole
}

func (m memory) clone() memory {
	return memory{slices.Clone(m.n), slices.Clone(m.e), slices.Clone(m.sig)}
}

func (m memory) same(other memory) bool {
	return slices.Equal(m.n, other.n) && slices.Equal(m.e, other.e) && bytes.Equal(m.sig, other.sig)
}

// spoil: writes over all of it.
func (m memory) spoil() {
	for _, list := range []api.Nat{m.n, m.e} {
		for i := range list {
			list[i] = 0xdead
		}
	}
	spoil(m.sig)
}

// spoil: writes over bytes, their spare room included.
func spoil(b []byte) {
	b = b[:cap(b)]
	for i := range b {
		b[i] = 0xee
	}
}

// answer: all that a call may tell.
type answer struct {
	size int
	err  api.Errno
	pad  []byte
	is   bool
}

func (a answer) same(b answer) bool {
	return a.size == b.size && a.err == b.err && bytes.Equal(a.pad, b.pad) && a.is == b.is
}

func (a answer) clone() answer { return answer{a.size, a.err, slices.Clone(a.pad), a.is} }

// call: one way to call the package.
type call struct {
	name string
	do   func(a args) answer
}

// calls: all of the package's.
func calls() []call {
	return []call{
		{"Size", func(a args) answer { return answer{size: rsa.Size(a.k)} }},
		{"Check", func(a args) answer { return answer{err: rsa.Check(a.k)} }},
		{"Pad", func(a args) answer { return answer{pad: rsa.Pad(a.size, a.hash)} }},
		{"Verify", func(a args) answer { return answer{is: rsa.Verify(a.k, a.hash, a.sig)} }},
	}
}

// handed: arguments that lead along each way through the calls.
func handed() []args {
	k, great := low(), products()[7]
	hash := hashes(30, 1)[0]
	sig := k.sign(hash)
	even := k.public()
	even.N[0]--
	return []args{
		{k.public(), 62, hash, sig},
		{paddedKey(k.public()), 63, hash, sig},
		{k.public(), 61, [32]byte{}, sig},
		{k.public(), 512, hash, sig[1:]},
		{k.public(), 513, hash, append([]byte{0}, sig...)},
		{k.public(), 256, hash, k.n.Bytes()},
		{even, 128, hash, sig},
		{api.RsaKey{N: k.public().N, E: api.Nat{2}}, 0, hash, sig},
		{api.RsaKey{N: k.public().N, E: api.Nat{1, 0, 0}}, -1, hash, rsa.Pad(62, hash)},
		{api.RsaKey{N: api.Nat{15}, E: api.Nat{3}}, 62, hash, []byte{1}},
		{great.public(), 255, hash, great.sign(hash)},
		{great.public(), 256, hash, sig},
		{},
	}
}

func TestR6ArgumentsStayAsTheyAre(t *testing.T) {
	for _, c := range calls() {
		for _, h := range handed() {
			a, whole := h.roomy()
			before := whole.clone()
			spoil(c.do(a).pad)
			if !whole.same(before) {
				t.Errorf("%s %v: an argument was changed, or shares memory with the answer", c.name, h)
			}
		}
	}
}

func TestR6AnswersStayAsTheyAre(t *testing.T) {
	for _, c := range calls() {
		for _, h := range handed() {
			want := c.do(h).clone()
			a, whole := h.roomy()
			got := c.do(a)
			whole.spoil()
			if !got.same(want) {
				t.Errorf("%s %v: an argument's change, or its spare room, changed the answer", c.name, h)
			}
			spoil(got.pad)
			if again := c.do(h); !again.same(want) {
				t.Errorf("%s %v: an answer's change changed the next answer", c.name, h)
			}
		}
	}
}

// One list as N and as E is read as two of their own.
func TestR6OneListHandedInTwice(t *testing.T) {
	for _, n := range []api.Nat{nil, {15}, {15, 0}, low().public().N} {
		list := slices.Clone(n)
		for _, sig := range [][]byte{nil, {1}, low().sign([32]byte{})} {
			shared := args{api.RsaKey{N: list, E: list}, 62, [32]byte{}, sig}
			apart := args{api.RsaKey{N: slices.Clone(n), E: slices.Clone(n)}, 62, [32]byte{}, sig}
			for _, c := range calls() {
				want := c.do(apart)
				if got := c.do(shared); !got.same(want) || !slices.Equal(list, n) {
					t.Errorf("%s with %x twice: %v, not %v; the list is %x", c.name, n, got, want, list)
				}
			}
		}
	}
}

// A list that is empty may be nil or empty.
func TestR5NilOrEmpty(t *testing.T) {
	n := low().public().N
	for _, none := range []api.Nat{nil, {}} {
		if size := rsa.Size(api.RsaKey{N: none}); size != 0 {
			t.Errorf("Size of no limbs: %d", size)
		}
		for _, k := range []api.RsaKey{{N: none, E: none}, {N: n, E: none}, {N: none, E: api.Nat{3}}} {
			if e := rsa.Check(k); e != api.ErrKey {
				t.Errorf("Check of %v: %d", k, e)
			}
			for _, sig := range [][]byte{nil, {}} {
				if rsa.Verify(k, [32]byte{}, sig) {
					t.Errorf("Verify of no bytes by %v: true", k)
				}
			}
		}
	}
}

// What was asked ahead changes no answer.
func TestR8OneArgumentOneAnswer(t *testing.T) {
	for _, c := range calls() {
		for _, h := range handed() {
			want := c.do(h).clone()
			for _, other := range calls() {
				for _, between := range handed() {
					other.do(between)
				}
				if got := c.do(h); !got.same(want) {
					t.Errorf("%s %v: another answer after %s", c.name, h, other.name)
				}
			}
		}
	}
}
