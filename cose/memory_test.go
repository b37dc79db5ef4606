package cose_test

import (
	"bytes"
	"slices"
	"testing"

	"latchkey/api"
	"latchkey/cose"
)

// args: what a call may be handed.
type args struct {
	item   api.Item
	curves []api.Curve
	place  int
	curve  api.Curve
	x, y   []byte
	key    api.Key
}

// roomyList: the same list in memory of its own with other things in its spare room.
func roomyList[T any](l []T, spare ...T) []T {
	return slices.Concat(l, spare)[:len(l)]
}

func roomyNat(a api.Nat) api.Nat { return roomyList(a, 11, 12, 13) }

// roomyItem: the same for all lists within an item.
func roomyItem(i api.Item) api.Item {
	var kids []api.Item
	for _, kid := range i.Kids {
		kids = append(kids, roomyItem(kid))
	}
	return api.Item{Kind: i.Kind, N: i.N, B: roomyList(i.B, 21, 22, 23), Kids: roomyList(kids, unsigned(1), octets(7), unsigned(3), octets(75))}
}

func roomyCurve(c api.Curve) api.Curve {
	c.Oid = roomyList(c.Oid, 31, 32)
	for _, n := range []*api.Nat{&c.P, &c.A, &c.B, &c.Gx, &c.Gy, &c.N} {
		*n = roomyNat(*n)
	}
	return c
}

// roomy: the same in memory of its own, with spare room behind each list; behind the curves stand others that aren't meant.
func (a args) roomy() args {
	var curves []api.Curve
	for _, c := range a.curves {
		curves = append(curves, roomyCurve(c))
	}
	k := a.key
	for _, n := range []*api.Nat{&k.Point.X, &k.Point.Y, &k.Rsa.N, &k.Rsa.E} {
		*n = roomyNat(*n)
	}
	return args{roomyItem(a.item), roomyList(curves, small(), named(-1000, 1), wide()), a.place, roomyCurve(a.curve), roomyList(a.x, 41, 42), roomyList(a.y, 41, 42), k}
}

// full: a list with its spare room.
func full[T any](l []T) []T { return l[:cap(l)] }

// cellsOfItem: all numbers of an item, spare room included, as a list.
func cellsOfItem(i api.Item) []uint64 {
	out := []uint64{uint64(i.Kind), i.N}
	for _, b := range full(i.B) {
		out = append(out, uint64(b))
	}
	for _, kid := range full(i.Kids) {
		out = append(out, cellsOfItem(kid)...)
	}
	return out
}

func cellsOfCurve(c api.Curve) []uint64 {
	out := []uint64{uint64(c.Alg), uint64(c.Crv)}
	return slices.Concat(out, full(c.Oid), full(c.P), full(c.A), full(c.B), full(c.Gx), full(c.Gy), full(c.N))
}

func cellsOfKey(k api.Key) []uint64 {
	out := []uint64{uint64(k.Kind), uint64(k.Curve)}
	return slices.Concat(out, full(k.Point.X), full(k.Point.Y), full(k.Rsa.N), full(k.Rsa.E))
}

// cells: all numbers of the arguments, spare room included, as a list.
func (a args) cells() []uint64 {
	out := slices.Concat(cellsOfItem(a.item), cellsOfCurve(a.curve), cellsOfKey(a.key))
	for _, c := range full(a.curves) {
		out = append(out, cellsOfCurve(c)...)
	}
	for _, b := range slices.Concat(full(a.x), full(a.y)) {
		out = append(out, uint64(b))
	}
	return out
}

// spoilList: writes over a list, spare room included.
func spoilList[T any](l []T, by T) {
	for at := range full(l) {
		full(l)[at] = by
	}
}

func spoilItem(i api.Item) {
	spoilList(i.B, 0xee)
	for _, kid := range full(i.Kids) {
		spoilItem(kid)
	}
	spoilList(i.Kids, api.Item{Kind: 99, N: 99})
}

func spoilCurve(c api.Curve) {
	for _, l := range [][]uint64{c.Oid, c.P, c.A, c.B, c.Gx, c.Gy, c.N} {
		spoilList(l, 0xdead)
	}
}

func spoilKey(k api.Key) {
	for _, l := range []api.Nat{k.Point.X, k.Point.Y, k.Rsa.N, k.Rsa.E} {
		spoilList(l, 0xdead)
	}
}

// spoil: writes over all that the arguments stand in.
func (a args) spoil() {
	spoilItem(a.item)
	for _, c := range full(a.curves) {
		spoilCurve(c)
	}
	spoilList(a.curves, api.Curve{Alg: 99})
	spoilCurve(a.curve)
	spoilList(a.x, 0xee)
	spoilList(a.y, 0xee)
	spoilKey(a.key)
}

// answer: all that a call may tell.
type answer struct {
	key  api.Key
	item api.Item
	alg  int64
	err  api.Errno
}

func (a answer) same(b answer) bool {
	return sameKey(a.key, b.key) && same(a.item, b.item) && a.alg == b.alg && a.err == b.err
}

func (a answer) spoil() {
	spoilKey(a.key)
	spoilItem(a.item)
}

// call: one way to call the package.
type call struct {
	name string
	do   func(a args) answer
}

// calls: all of the package's.
func calls() []call {
	return []call{
		{"Read", func(a args) answer {
			k, err := cose.Read(a.item, a.curves)
			return answer{key: k, err: err}
		}},
		{"Point", func(a args) answer {
			k, err := cose.Point(a.place, a.curve, a.x, a.y)
			return answer{key: k, err: err}
		}},
		{"Write", func(a args) answer {
			i, err := cose.Write(a.key, a.curves)
			return answer{item: i, err: err}
		}},
		{"Alg", func(a args) answer { return answer{alg: cose.Alg(a.key, a.curves)} }},
	}
}

// handed: arguments that lead along each way through the calls, made anew each time.
func handed() []args {
	known := ecKey(0, hexInt("65eda5a12577c2bae829437fe338701a10aaa375e1bb5b5de108de439c08551d"), hexInt("1e52ed75701163f7f9e40ddf9f341b3dc9ba860af7e0ca7ca7e9eecd0084d19c"))
	x, y := valueOf(known.Point.X).Bytes(), valueOf(known.Point.Y).Bytes()
	nothing := smallKey(0, 7, 75)
	nothing.Point.Inf = true
	return []args{
		{goodPoint(), curves(), 0, small(), []byte{7}, []byte{75}, smallKey(0, 7, 75)},
		{goodRsa(), curves(), 1, wide(), []byte{0, 16}, nil, rsaKey(least(), f4)},
		{pointItem(-7, 1, x, y), []api.Curve{p256()}, 2, p256(), x, y, known},
		{pointItem(-7, 1, x, y), []api.Curve{p256()}, 2, p256(), fill(hexInt("ff"), 512), y, paddedKey(known)},
		{goodRsa(), nil, -1, small(), make([]byte, 512), append(make([]byte, 511), 2), paddedKey(rsaKey(greatest(), least()))},
		{pointItem(-7, 1, []byte{7}, []byte{76}), curves(), 0, small(), []byte{7}, []byte{76}, smallKey(1, 7, 76)},
		{pointItem(-1000, 1, []byte{7}, []byte{75}), curves(), 0, small(), make([]byte, 513), []byte{75}, smallKey(2, 7, 75)},
		{pointItem(-7, 1, []byte{7}, []byte{75}), nil, 0, small(), []byte{7}, make([]byte, 513), smallKey(0, 7, 75)},
		{rsaItem(-256, least().Bytes(), []byte{3}), curves(), 0, small(), nil, []byte{2}, rsaKey(least(), least())},
		{rsaItem(-257, append([]byte{0}, least().Bytes()...), []byte{3}), curves(), 0, wide(), nil, nil, nothing},
		{without(goodPoint(), 4), curves(), 0, small(), []byte{251}, []byte{2}, smallKey(0, 256, 75)},
		{with(goodPoint(), 9, goodRsa()), curves(), 0, small(), []byte{7}, []byte{75}, api.Key{Kind: 3}},
		{pairs(goodPoint(), goodRsa()), curves(), 0, small(), []byte{7}, []byte{75}, smallKey(-1, 7, 75)},
		{},
	}
}

func TestR6ArgumentsStayAsTheyAre(t *testing.T) {
	for _, c := range calls() {
		for at, h := range handed() {
			a := h.roomy()
			before := a.cells()
			c.do(a).spoil()
			if !slices.Equal(a.cells(), before) {
				t.Errorf("%s, %d: an argument was changed, or shares memory with the answer", c.name, at)
			}
		}
	}
}

func TestR6AnswersStayAsTheyAre(t *testing.T) {
	for _, c := range calls() {
		for at, h := range handed() {
			want := c.do(handed()[at])
			a := h.roomy()
			got := c.do(a)
			a.spoil()
			if !got.same(want) {
				t.Errorf("%s, %d: an argument's change, or its spare room, changed the answer", c.name, at)
			}
			got.spoil()
			if again := c.do(h); !again.same(want) {
				t.Errorf("%s, %d: an answer's change changed the next answer", c.name, at)
			}
		}
	}
}

// The lists of an answer are apart: one is written over and grown, and the others stay.
func TestR6ListsOfAnAnswerAreApart(t *testing.T) {
	lists := func(k *api.Key) []*api.Nat { return []*api.Nat{&k.Point.X, &k.Point.Y, &k.Rsa.N, &k.Rsa.E} }
	for at, h := range handed() {
		for _, c := range calls()[:2] {
			for place := range 4 {
				got, want := c.do(h), c.do(h)
				spoilList(*lists(&got.key)[place], 0xdead)
				*lists(&got.key)[place] = *lists(&want.key)[place]
				if !got.same(want) {
					t.Errorf("%s, %d: a list of the key shares memory with another one", c.name, at)
				}
			}
		}
		for place := range len(calls()[2].do(h).item.Kids) {
			got, want := calls()[2].do(h).item, calls()[2].do(h).item
			spoilItem(got.Kids[place])
			got.Kids[place] = want.Kids[place]
			if !same(got, want) {
				t.Errorf("Write, %d: a list of the item shares memory with another one", at)
			}
		}
	}
}

// One list as x and as y, as both numbers of a key, in two values of a map, is read as two of their own.
func TestR6OneListHandedInTwice(t *testing.T) {
	// (1, 1) and (0, 0) are handed in; only the second is a point.
	for _, b := range []byte{0, 1} {
		list := []byte{0, b}
		before := slices.Clone(list)
		shared := args{item: pointItem(-35, 2, list, list), curves: curves(), curve: wide(), x: list, y: list}
		shared.key = api.Key{Kind: api.KEc, Curve: 1, Point: api.Point{X: api.Nat{uint64(b)}}}
		shared.key.Point.Y = shared.key.Point.X
		apart := shared.roomy()
		for _, c := range calls() {
			if got, want := c.do(shared), c.do(apart); !got.same(want) || !bytes.Equal(list, before) {
				t.Errorf("%s with %x twice: %v, not %v", c.name, list, got, want)
			}
		}
	}
}

// A list that is empty may be nil or empty.
func TestR5NilOrEmpty(t *testing.T) {
	empty := api.Item{Kind: api.CBytes, B: []byte{}, Kids: []api.Item{}}
	none := api.Item{Kind: api.CBytes}
	for place := range 10 {
		a, b := args{item: with(goodPoint(), place, empty), curves: curves()}, args{item: with(goodPoint(), place, none), curves: curves()}
		if !calls()[0].do(a).same(calls()[0].do(b)) {
			t.Errorf("Read: nil and empty at %d aren't the same", place)
		}
	}
	zero := wide()
	zero.B, zero.Gx, zero.Gy = api.Nat{}, api.Nat{}, api.Nat{}
	for _, c := range []api.Curve{wide(), zero} {
		for _, n := range []api.Nat{nil, {}} {
			k := api.Key{Kind: api.KEc, Point: api.Point{X: n, Y: n}}
			writes(t, k, []api.Curve{c}, unhex("a5 01 02 03 38 22 20 02 21 42 00 00 22 42 00 00"))
			reads(t, pointItem(-35, 2, []byte{0, 0}, []byte{0, 0}), []api.Curve{c}, k)
		}
	}
}

// What was asked ahead changes no answer.
func TestR8OneArgumentOneAnswer(t *testing.T) {
	for _, c := range calls() {
		for at, h := range handed() {
			want := c.do(h)
			for _, other := range calls() {
				for _, between := range handed() {
					other.do(between)
				}
				if got := c.do(h); !got.same(want) {
					t.Errorf("%s, %d: another answer after %s", c.name, at, other.name)
				}
			}
		}
	}
}
