package cose_test

import (
	"math"
	"slices"
	"testing"

	"latchkey/api"
	"latchkey/cbor"
	"latchkey/cose"
)

// goodPoint, goodRsa: an item of each kind, which is read with curves().
func goodPoint() api.Item { return pointItem(-7, 1, []byte{7}, []byte{75}) }
func goodRsa() api.Item   { return rsaItem(-257, least().Bytes(), []byte{1, 0, 1}) }

func curves() []api.Curve { return []api.Curve{small(), wide()} }

// good: both of them.
func good() []api.Item { return []api.Item{goodPoint(), goodRsa()} }

// with: the map with another item at that place of its Kids.
func with(i api.Item, place int, kid api.Item) api.Item {
	i.Kids = slices.Clone(i.Kids)
	i.Kids[place] = kid
	return i
}

// without: the map without that pair.
func without(i api.Item, pair int) api.Item {
	i.Kids = slices.Delete(slices.Clone(i.Kids), 2*pair, 2*pair+2)
	return i
}

// besides: the map with one more pair ahead of that one.
func besides(i api.Item, pair int, key, value api.Item) api.Item {
	i.Kids = slices.Insert(slices.Clone(i.Kids), 2*pair, key, value)
	return i
}

// The chapter's example, by its form too.
func TestP111Example(t *testing.T) {
	i, err := cbor.Whole(unhex("a5 01 02 03 26 20 01 21 41 07 22 41 4b"))
	if err != api.OK {
		t.Fatal(err)
	}
	reads(t, i, []api.Curve{small()}, smallKey(0, 7, 75))
}

func TestP111NoMap(t *testing.T) {
	for _, i := range good() {
		for kind := range 256 {
			if i.Kind = api.ItemKind(kind); i.Kind != api.CMap {
				unread(t, i, curves(), api.ErrKey)
				unread(t, api.Item{Kind: i.Kind}, curves(), api.ErrKey)
			}
		}
	}
	unread(t, api.Item{}, nil, api.ErrKey)
	unread(t, unsigned(2), curves(), api.ErrKey)
	unread(t, octets(formOf(goodPoint())...), curves(), api.ErrKey)
	unread(t, api.Item{Kind: api.CArray, Kids: good()}, curves(), api.ErrKey)
	unread(t, pairs(unsigned(1), goodPoint()), curves(), api.ErrKey)
}

// The value of 1 tells the kind, and it alone: 3 isn't taken of a point's map, nor 2 of the other one.
func TestP111Type(t *testing.T) {
	reads(t, goodPoint(), curves(), smallKey(0, 7, 75))
	reads(t, goodRsa(), curves(), rsaKey(least(), plus(twoTo(16), 1)))
	wrong := []api.Item{
		unsigned(0), unsigned(1), unsigned(4), unsigned(2 + 1<<8), unsigned(2 + 1<<32), unsigned(3 + 1<<32), unsigned(math.MaxUint64),
		negative(0), negative(1), negative(2), negative(3), negative(math.MaxUint64), negative(math.MaxUint64 - 1), negative(math.MaxUint64 - 2),
		octets(), octets(2), octets(3), text("2"), text("\x03"), {Kind: api.CArray, N: 2, Kids: []api.Item{unsigned(2)}},
		pairs(), pairs(unsigned(1), unsigned(2)), {Kind: api.CFalse, N: 2}, {Kind: api.CTrue, N: 3}, {Kind: api.CNull}, {}, {N: 2}, {Kind: 10, N: 3},
	}
	for _, value := range wrong {
		unread(t, with(goodPoint(), 1, value), curves(), api.ErrKey)
		unread(t, with(goodRsa(), 1, value), curves(), api.ErrKey)
	}
	unread(t, with(goodPoint(), 1, unsigned(3)), curves(), api.ErrKey)
	unread(t, with(goodRsa(), 1, unsigned(2)), curves(), api.ErrKey)
}

func TestP111TypeMissing(t *testing.T) {
	for _, i := range good() {
		unread(t, without(i, 0), curves(), api.ErrKey)
		for _, key := range []api.Item{unsigned(0), unsigned(2), unsigned(4), negative(1), negative(5), octets(1), text("1"), {Kind: api.CNull, N: 1}, {N: 1}} {
			unread(t, with(i, 0, key), curves(), api.ErrKey)
		}
	}
}

// A pair fewer and a pair more, wherever it stands, and a key without a value.
func TestP111Kids(t *testing.T) {
	for _, i := range good() {
		many := len(i.Kids) / 2
		for pair := range many {
			fewer := without(i, pair)
			unread(t, fewer, curves(), api.ErrKey)
			unread(t, without(fewer, 0), curves(), api.ErrKey)
		}
		for pair := range many + 1 {
			for _, key := range []api.Item{unsigned(0), unsigned(1), unsigned(2), unsigned(3), unsigned(4), negative(2), negative(3), octets(1), text("a")} {
				more := besides(i, pair, key, i.Kids[1])
				unread(t, more, curves(), api.ErrKey)
				unread(t, besides(more, 0, unsigned(9), unsigned(9)), curves(), api.ErrKey)
			}
		}
		for size := range len(i.Kids) {
			unread(t, pairs(i.Kids[:size]...), curves(), api.ErrKey)
		}
		unread(t, pairs(append(slices.Clone(i.Kids), unsigned(9))...), curves(), api.ErrKey)
		unread(t, pairs(slices.Concat(i.Kids, i.Kids)...), curves(), api.ErrKey)
	}
}

// Each kind with as many Kids as the other one: a point without its Y, powers with one number more.
func TestP111KidsOfTheOtherKind(t *testing.T) {
	unread(t, without(goodPoint(), 4), curves(), api.ErrKey)
	unread(t, besides(goodRsa(), 4, negative(2), octets(75)), curves(), api.ErrKey)
	both := api.Curve{Alg: -257, Crv: 1, P: small().P, A: small().A, B: small().B, Gx: small().Gx, Gy: small().Gy, N: small().N}
	unread(t, with(besides(goodRsa(), 4, negative(2), octets(75)), 3, integer(-257)), []api.Curve{both}, api.ErrKey)
	unread(t, with(without(goodPoint(), 4), 3, integer(-257)), []api.Curve{both}, api.ErrKey)
	reads(t, with(goodPoint(), 3, integer(-257)), []api.Curve{both}, smallKey(0, 7, 75))
}

// What is wrong with the map comes ahead of what is wrong with 3.
func TestP111MapAheadOfAlg(t *testing.T) {
	for _, i := range good() {
		wrong := with(i, 3, integer(-1000))
		unread(t, wrong, curves(), api.ErrAlg)
		unread(t, with(wrong, 1, unsigned(4)), curves(), api.ErrKey)
		unread(t, without(wrong, 3), curves(), api.ErrKey)
		unread(t, without(i, 1), curves(), api.ErrKey)
		unread(t, besides(wrong, 2, unsigned(4), unsigned(4)), curves(), api.ErrKey)
		wrong.Kind = api.CArray
		unread(t, wrong, curves(), api.ErrKey)
	}
}

// Another key in each key's place: its value is missing then.
func TestP111OtherKeys(t *testing.T) {
	for _, i := range good() {
		for place := 0; place < len(i.Kids); place += 2 {
			want := api.ErrKey
			if place == 2 {
				want = api.ErrAlg
			}
			for _, key := range []api.Item{unsigned(0), unsigned(2), unsigned(4), negative(3), negative(4), octets(byte(place)), text("-1"), {}, {Kind: api.CArray}} {
				unread(t, with(i, place, key), curves(), want)
			}
			other := with(i, place, i.Kids[place])
			other.Kids[place].Kind = 3 - other.Kids[place].Kind // 1 and -2, 3 and -4, -1 and 0
			judged(t, other, curves())
		}
	}
}

// A key that stands twice takes another one's place; the first one of them counts.
func TestP111KeysTwice(t *testing.T) {
	told := map[api.Errno]int{}
	for _, i := range good() {
		for from := 0; from < len(i.Kids); from += 2 {
			for to := 0; to < len(i.Kids); to += 2 {
				if from != to {
					told[judged(t, with(i, to, i.Kids[from]), curves())]++
					told[judged(t, with(with(i, to, i.Kids[from]), to+1, i.Kids[from+1]), curves())]++
				}
			}
		}
	}
	if told[api.OK] != 0 || told[api.ErrKey] == 0 || told[api.ErrAlg] == 0 {
		t.Errorf("errors: %v", told)
	}
}

// A map's values are found wherever they stand.
func TestP111AnyOrder(t *testing.T) {
	for _, i := range good() {
		want, err := judge(i, curves())
		if err != api.OK {
			t.Fatal(err)
		}
		rows := slices.Collect(slices.Chunk(i.Kids, 2))
		permute(rows, len(rows), func() { reads(t, pairs(slices.Concat(rows...)...), curves(), want) })
	}
}

// permute: calls with the first rows in each order.
func permute(rows [][]api.Item, many int, call func()) {
	if many == 0 {
		call()
		return
	}
	for at := range many {
		rows[at], rows[many-1] = rows[many-1], rows[at]
		permute(rows, many-1, call)
		rows[at], rows[many-1] = rows[many-1], rows[at]
	}
}

// Another Kind in each value's place, with the same number, bytes and Kids beside it.
func TestP111OtherKinds(t *testing.T) {
	for _, i := range good() {
		for place := 1; place < len(i.Kids); place += 2 {
			for kind := range 256 {
				value := i.Kids[place]
				if value.Kind == api.ItemKind(kind) {
					continue
				}
				value.Kind = api.ItemKind(kind)
				want := api.ErrKey
				if place == 3 {
					want = api.ErrAlg
				}
				unread(t, with(i, place, value), curves(), want)
			}
		}
	}
}

// What fields hold that a kind gives no meaning changes nothing.
func TestP111OtherFields(t *testing.T) {
	for _, i := range good() {
		want, _ := judge(i, curves())
		i.N, i.B = 5, []byte("more")
		for place, kid := range i.Kids {
			kid.Kids = []api.Item{unsigned(1), unsigned(4)}
			if kid.Kind == api.CBytes {
				kid.N = 99
			} else {
				kid.B = []byte("more")
			}
			i = with(i, place, kid)
		}
		if got, err := cose.Read(i, curves()); err != api.OK || !sameKey(got, want) {
			t.Errorf("Read(%v): %v, error %d; not %v, no error", i, got, err, want)
		}
	}
}
