package cbor_test

import (
	"math"
	"strings"
	"testing"

	"latchkey/api"
	"latchkey/cbor"
)

// gets: the map's value of the key is just that.
func gets(t *testing.T, i, key, want api.Item) {
	t.Helper()
	if got, ok := cbor.Get(i, key); !ok || !same(got, want) {
		t.Fatalf("Get(%v, %v): %v, %t; not %v, true", i, key, got, ok, want)
	}
}

// getsNone: there is no value of the key, and nothing stands beside false.
func getsNone(t *testing.T, i, key api.Item) {
	t.Helper()
	if got, ok := cbor.Get(i, key); ok || !isZero(got) {
		t.Fatalf("Get(%v, %v): %v, %t; not none, false", i, key, got, ok)
	}
}

func TestP63EachKeyHasItsValue(t *testing.T) {
	var kids []api.Item
	for at, key := range rising {
		kids = append(kids, key, number(uint64(1000+at)))
	}
	for at, key := range rising {
		gets(t, pairs(kids...), key, number(uint64(1000+at)))
		getsNone(t, pairs(append(append([]api.Item{}, kids[:2*at]...), kids[2*at+2:]...)...), key)
		getsNone(t, pairs(), key)
	}
	for _, value := range []api.Item{number(0), negative(5), octets("x"), text(""), array(number(1), array(text("a"))), pairs(number(1), pairs(number(2), number(3))), word(api.CFalse), word(api.CTrue), word(api.CNull)} {
		gets(t, pairs(number(1), number(9), text("v"), value, text("w"), number(9)), text("v"), value)
	}
}

func TestP63TheFirstKeyThatIsTheSame(t *testing.T) {
	twice := pairs(number(2), text("first"), number(1), text("one"), number(2), text("second"), text("a"), text("x"), text("a"), text("y"))
	gets(t, twice, number(2), text("first"))
	gets(t, twice, number(1), text("one"))
	gets(t, twice, text("a"), text("x"))
	gets(t, pairs(text("z"), number(1), number(0), number(2)), number(0), number(2))
}

// Of the same kind, and the same number or bytes: nothing else counts.
func TestP63KeysThatAreTheSame(t *testing.T) {
	kinds := pairs(number(1), text("uint"), negative(1), text("neg"), octets("a"), text("bytes"), text("a"), text("text"))
	gets(t, kinds, number(1), text("uint"))
	gets(t, kinds, negative(1), text("neg"))
	gets(t, kinds, octets("a"), text("bytes"))
	gets(t, kinds, text("a"), text("text"))
	for _, key := range []api.Item{number(0), number(2), negative(0), negative(2), octets(""), octets("b"), octets("aa"), text(""), text("b"), text("aa"), text("A"), number(1 << 32), number(1<<63 + 1)} {
		getsNone(t, kinds, key)
	}
	beside := api.Item{Kind: api.CUint, N: 1, B: []byte("x"), Kids: []api.Item{number(3)}}
	gets(t, kinds, beside, text("uint"))
	gets(t, pairs(beside, text("v")), number(1), text("v"))
	beside = api.Item{Kind: api.CText, N: 77, B: []byte("a"), Kids: []api.Item{number(3)}}
	gets(t, kinds, beside, text("text"))
	gets(t, pairs(beside, text("v")), text("a"), text("v"))
	gets(t, pairs(text("\xff"), text("v")), text("\xff"), text("v"))
	gets(t, pairs(octets(""), text("v")), api.Item{Kind: api.CBytes}, text("v"))
}

func TestP63ALastKeyWithoutAValue(t *testing.T) {
	getsNone(t, pairs(number(1)), number(1))
	getsNone(t, pairs(number(1), number(2), number(3)), number(3))
	gets(t, pairs(number(1), number(2), number(3)), number(1), number(2))
	gets(t, pairs(number(3), number(2), number(3)), number(3), number(2))
	// A value is no key, though it is the same.
	getsNone(t, pairs(number(1), number(2)), number(2))
	getsNone(t, pairs(number(1), number(2), number(3), number(4), number(5)), number(4))
}

func TestP63KeysThatMayBeNone(t *testing.T) {
	for _, key := range append([]api.Item{{}, word(10), word(255)}, notKeys...) {
		getsNone(t, pairs(key, number(1)), key)
		getsNone(t, pairs(number(1), number(1), key, number(1)), key)
		getsNone(t, pairs(), key)
		// Such a key of the map is passed by.
		gets(t, pairs(key, number(1), number(7), number(2)), number(7), number(2))
		gets(t, pairs(number(7), key), number(7), key)
	}
}

func TestP63ItemsThatAreNoMap(t *testing.T) {
	for kind := range 256 {
		item := api.Item{Kind: api.ItemKind(kind), N: 1, B: []byte("a"), Kids: []api.Item{number(1), number(2)}}
		if item.Kind == api.CMap {
			gets(t, item, number(1), number(2))
			continue
		}
		getsNone(t, item, number(1))
	}
	getsNone(t, api.Item{}, api.Item{})
}

// The value is told as it stands there, whatever it is.
func TestP63ValuesOfAnyKind(t *testing.T) {
	odd := api.Item{Kind: 77, N: 5, B: []byte("\xff"), Kids: []api.Item{{Kind: api.CUint, N: 1, B: []byte("b"), Kids: []api.Item{pairs(number(1))}}}}
	gets(t, pairs(number(1), odd), number(1), odd)
	gets(t, pairs(number(1), api.Item{}), number(1), api.Item{})
	deep := within(1000, 0x5555, number(3))
	gets(t, pairs(number(1), deep), number(1), deep)
}

func TestP63Numbers(t *testing.T) {
	for n, want := range map[int64]api.Item{
		0: number(0), 1: number(1), 23: number(23), 24: number(24), math.MaxInt32: number(1<<31 - 1), math.MaxInt64 - 1: number(1<<63 - 2), math.MaxInt64: number(1<<63 - 1),
		-1: negative(0), -2: negative(1), -7: negative(6), -24: negative(23), -25: negative(24), -257: negative(256), math.MinInt32: negative(1<<31 - 1), math.MinInt64 + 1: negative(1<<63 - 2), math.MinInt64: negative(1<<63 - 1),
	} {
		if got := cbor.Number(n); !same(got, want) {
			t.Errorf("Number(%d): %v, not %v", n, got, want)
		}
	}
	encodes(t, cbor.Number(math.MinInt64), unhex("3b 7fffffffffffffff"))
	encodes(t, cbor.Number(math.MaxInt64), unhex("1b 7fffffffffffffff"))
	encodes(t, cbor.Number(-257), unhex("39 0100"))
}

func TestP63Texts(t *testing.T) {
	for _, s := range []string{"", "a", "fmt", "\x00", "\u00e9", "\U0001f511", "\xff", "a\xffb", strings.Repeat("x", 10000)} {
		if got := cbor.Text(s); !same(got, text(s)) {
			t.Errorf("Text(%q): %v", s, got)
		}
	}
	gets(t, pairs(text("fmt"), text("none")), cbor.Text("fmt"), cbor.Text("none"))
}
