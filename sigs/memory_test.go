package sigs_test

import (
	"math/rand"
	"slices"
	"testing"

	"latchkey/api"
	"latchkey/sigs"
)

// args: what a call may be handed.
type args struct {
	curves   []api.Curve
	key      api.Key
	msg, sig []byte
}

// roomyList: the same list in memory of its own with other things in its spare room.
func roomyList[T any](l []T, spare ...T) []T { return slices.Concat(l, spare)[:len(l)] }

// full: a list with its spare room.
func full[T any](l []T) []T { return l[:cap(l)] }

// listsOfCurve: all lists of numbers in it.
func listsOfCurve(c *api.Curve) []*api.Nat {
	return []*api.Nat{(*api.Nat)(&c.Oid), &c.P, &c.A, &c.B, &c.Gx, &c.Gy, &c.N}
}

// listsOfKey: all lists of numbers in it.
func listsOfKey(k *api.Key) []*api.Nat {
	return []*api.Nat{&k.Point.X, &k.Point.Y, &k.Rsa.N, &k.Rsa.E}
}

// roomy: the same in memory of its own, with spare room behind each list in which others stand that would go on.
func (a args) roomy() args {
	curves := slices.Clone(a.curves)
	for at := range curves {
		for _, n := range listsOfCurve(&curves[at]) {
			*n = roomyList(*n, 11, 12, 13)
		}
	}
	k := a.key
	for _, n := range listsOfKey(&k) {
		*n = roomyList(*n, 11, 12, 13)
	}
	return args{roomyList(curves, three()...), k, roomyList(a.msg, 0, 1, 2, 3), roomyList(a.sig, 2, 1, 9, 5, 0)}
}

// cells: all numbers of the arguments, spare room included, as a list.
func (a args) cells() []uint64 {
	out := []uint64{uint64(a.key.Kind), uint64(a.key.Curve)}
	for _, n := range listsOfKey(&a.key) {
		out = append(out, full(*n)...)
	}
	for _, c := range full(a.curves) {
		out = append(out, uint64(c.Alg), uint64(c.Crv))
		for _, n := range listsOfCurve(&c) {
			out = append(out, full(*n)...)
		}
	}
	for _, b := range slices.Concat(full(a.msg), full(a.sig)) {
		out = append(out, uint64(b))
	}
	return out
}

// spoilList: writes over a list, spare room included.
func spoilList[T any](l []T, by T) {
	for at := range full(l) {
		full(l)[at] = by
	}
}

// spoil: writes over all that the arguments stand in.
func (a args) spoil() {
	for _, n := range listsOfKey(&a.key) {
		spoilList(*n, 0xdead)
	}
	for _, c := range full(a.curves) {
		for _, n := range listsOfCurve(&c) {
			spoilList(*n, 0xdead)
		}
	}
	spoilList(a.curves, api.Curve{Alg: 99})
	spoilList(a.msg, 0xee)
	spoilList(a.sig, 0xee)
}

// answer: all that a call may tell.
type answer struct {
	r, s api.Nat
	err  api.Errno
}

func (a answer) same(b answer) bool {
	return slices.Equal(a.r, b.r) && slices.Equal(a.s, b.s) && a.err == b.err
}

func (a answer) spoil() {
	spoilList(a.r, 0xdead)
	spoilList(a.s, 0xdead)
}

// call: one way to call the package.
type call struct {
	name string
	do   func(a args) answer
}

// calls: all of the package's.
func calls() []call {
	return []call{
		{"Pair", func(a args) answer {
			r, s, err := sigs.Pair(a.sig)
			return answer{r, s, err}
		}},
		{"Verify", func(a args) answer { return answer{err: sigs.Verify(a.curves, a.key, a.msg, a.sig)} }},
	}
}

// handed: arguments that lead along each way through the calls, made anew each time.
func handed() []args {
	msg := []byte("latchkey")
	var out []args
	for _, s := range []author{onLeast(), onSmall(), low()} {
		k, sig := s.key(), s.sign(msg)
		out = append(out,
			args{three(), k, msg, sig},
			args{paddedCurves(three()), paddedKey(k), msg, sig},
			args{three(), k, msg[:7], sig},
			args{three(), k, nil, sig},
			args{three(), k, msg, nil},
			args{three(), k, msg, sig[:len(sig)-1]},
			args{three(), k, msg, append(slices.Clone(sig), 0)},
			args{three()[:1], k, msg, sig},
			args{nil, k, msg, sig})
		k.Kind, k.Point.Inf = 3, true
		out = append(out, args{three(), k, msg, sig})
	}
	wide := onP256()
	last := plus(twoTo(4096), -1)
	return append(out,
		args{three(), wide.key(), msg, wide.sign(msg)},
		args{three(), wide.key(), msg, formOf(last, last)},
		args{three(), wide.key(), msg, formOf(last, twoTo(4096))},
		args{three(), onSmall().key(), msg, seq(integer(last), piece(3, 5))},
		args{three(), onSmall().key(), msg, make([]byte, 4097)},
		args{})
}

func TestR6ArgumentsStayAsTheyAre(t *testing.T) {
	for _, c := range calls() {
		for at, h := range handed() {
			a := h.roomy()
			before := a.cells()
			c.do(a).spoil()
			if !slices.Equal(a.cells(), before) {
				t.Errorf("%s, %d: an argument was changed, or shares memory with the answer", c.name, at)
			}
		}
	}
}

func TestR6AnswersStayAsTheyAre(t *testing.T) {
	for _, c := range calls() {
		for at, h := range handed() {
			want := c.do(handed()[at])
			a := h.roomy()
			got := c.do(a)
			a.spoil()
			if !got.same(want) {
				t.Errorf("%s, %d: an argument's change, or its spare room, changed the answer", c.name, at)
			}
			got.spoil()
			if again := c.do(h); !again.same(want) {
				t.Errorf("%s, %d: an answer's change changed the next answer", c.name, at)
			}
		}
	}
}

// The two numbers of a pair are apart: one is written over, spare room included, and the other stays.
func TestR6NumbersOfAPairAreApart(t *testing.T) {
	for at, h := range handed() {
		want, first, second := calls()[0].do(h), calls()[0].do(h), calls()[0].do(h)
		spoilList(first.r, 0xdead)
		spoilList(second.s, 0xdead)
		if !slices.Equal(first.s, want.s) || !slices.Equal(second.r, want.r) {
			t.Errorf("Pair, %d: a number shares memory with the other one", at)
		}
	}
	equal, _, _ := sigs.Pair(unhex("30 06 02 01 05 02 01 05"))
	spoilList(equal, 0xdead)
	pairs(t, unhex("30 06 02 01 05 02 01 05"), valueOf(api.Nat{5}), valueOf(api.Nat{5}))
}

// One list as message and as signature, or as all numbers of a key, is read as so many of their own.
func TestR6OneListHandedInTwice(t *testing.T) {
	for _, b := range [][]byte{nil, example(), make([]byte, 62), onSmall().sign(nil)} {
		for _, n := range []api.Nat{nil, {7}, {7, 0}, low().public().N} {
			for _, kind := range []api.KeyKind{0, api.KEc, api.KRsa} {
				shared := args{curves: three(), key: api.Key{Kind: kind, Curve: 1}, msg: b, sig: b}
				for _, l := range listsOfKey(&shared.key) {
					*l = n
				}
				apart := shared.roomy()
				before := shared.cells()
				for _, c := range calls() {
					if got, want := c.do(shared), c.do(apart); !got.same(want) || !slices.Equal(shared.cells(), before) {
						t.Errorf("%s with %x and %x everywhere: %v, not %v", c.name, b, n, got, want)
					}
				}
			}
		}
	}
	// A message that is its own signature, as some may be.
	s := onSmall()
	for at := range 128 {
		msg := []byte{0x30, 6, 2, 1, byte(at), 2, 1, byte(at / 2)}
		want := api.ErrSig
		if r, second, ok := judge(msg); ok && s.field().holds(s.spot(), msg, r, second) {
			want = api.OK
		}
		verifies(t, "a message as its signature", three(), s.key(), msg, msg, want)
	}
}

// A list that is empty may be nil or empty.
func TestR5NilOrEmpty(t *testing.T) {
	for _, s := range authors() {
		sig := s.sign(nil)
		for _, msg := range [][]byte{nil, {}} {
			verifies(t, "a signature of no bytes", three(), s.key(), msg, sig, api.OK)
			verifies(t, "no bytes as a signature", three(), s.key(), msg, nil, api.ErrSig)
			verifies(t, "no bytes as a signature", three(), s.key(), msg, []byte{}, api.ErrSig)
		}
		for _, n := range []api.Nat{nil, {}, {0}} {
			k := s.key()
			for _, l := range listsOfKey(&k) {
				*l = n
			}
			verifies(t, "a key of no numbers", three(), k, nil, sig, api.ErrSig)
		}
	}
}

// What was asked ahead changes no answer.
func TestR8OneArgumentOneAnswer(t *testing.T) {
	for _, c := range calls() {
		for at, h := range handed() {
			want := c.do(h)
			for _, other := range calls() {
				for _, between := range handed()[:20] {
					other.do(between)
				}
			}
			if got := c.do(h); !got.same(want) {
				t.Errorf("%s, %d: another answer than ahead", c.name, at)
			}
		}
	}
}

// P1: whatever is handed in, each call answers, and no key or signature that is none is taken.
func TestP1DrawnArguments(t *testing.T) {
	draw := rand.New(rand.NewSource(1))
	numbers := []api.Nat{nil, {}, {0}, {0, 0}, {1}, {3}, {7}, {75, 0}, {1 << 63}, make(api.Nat, 100), limbsOf(low().n), limbsOf(great().n), limbsOf(plus(twoTo(2048), -1)), limbsOf(twoTo(9000))}
	number := func() api.Nat { return numbers[draw.Intn(len(numbers))] }
	lists := [][]api.Curve{nil, {}, three(), three()[1:], slices.Repeat(three(), 5)}
	last := plus(twoTo(4096), -1)
	forms := [][]byte{nil, {}, {0x30}, example(), make([]byte, 62), make([]byte, 256), make([]byte, 4097), formOf(last, last), formOf(twoTo(0), twoTo(0))}
	for range 3000 {
		curves := lists[draw.Intn(len(lists))]
		k := api.Key{Kind: api.KeyKind(draw.Intn(4)), Curve: draw.Intn(8) - 2, Point: api.Point{X: number(), Y: number(), Inf: draw.Intn(4) == 0}, Rsa: api.RsaKey{N: number(), E: number()}}
		msg, sig := make([]byte, draw.Intn(200)), forms[draw.Intn(len(forms))]
		hasCurve := k.Curve >= 0 && k.Curve < len(curves)
		switch err := sigs.Verify(curves, k, msg, sig); {
		case k.Kind == api.KRsa, k.Kind == api.KEc && hasCurve:
			if err != api.ErrSig {
				t.Fatalf("Verify(%v, %x): error %d", k, sig, err)
			}
		case err != api.ErrKey:
			t.Fatalf("Verify(%v, %x): error %d", k, sig, err)
		}
	}
}
