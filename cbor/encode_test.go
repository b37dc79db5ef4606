package cbor_test

import (
	"slices"
	"strings"
	"testing"

	"latchkey/api"
)

func TestP62KindsThatAreNone(t *testing.T) {
	for kind := range 256 {
		item := api.Item{Kind: api.ItemKind(kind), N: 5, B: []byte("ab"), Kids: []api.Item{number(1), number(2)}}
		if kind >= 1 && kind <= 9 {
			encodes(t, item, formOf(item))
			continue
		}
		unwritten(t, item, api.ErrCbor)
		unwritten(t, word(api.ItemKind(kind)), api.ErrCbor)
		unwritten(t, array(number(1), item), api.ErrCbor)
		unwritten(t, pairs(number(1), item), api.ErrCbor)
		unwritten(t, pairs(item, number(1)), api.ErrCbor)
	}
	unwritten(t, api.Item{}, api.ErrCbor)
}

// Fields that a kind gives no meaning aren't looked at, nor do the kids in them count.
func TestP62FieldsThatMeanNothing(t *testing.T) {
	loop := make([]api.Item, 1)
	loop[0] = api.Item{Kind: api.CNull, Kids: loop}
	others := [][]api.Item{
		{number(1)}, {{}}, {word(99)}, {text("\xff")}, slices.Repeat([]api.Item{number(1)}, 600), {within(20, 0x5555, number(1))}, {pairs(number(1))}, {pairs(number(2), number(0), number(1), number(0))}, {pairs(array(), number(1))}, loop,
	}
	for _, kids := range others {
		encodes(t, api.Item{Kind: api.CUint, N: 24, B: []byte("\xff"), Kids: kids}, unhex("18 18"))
		encodes(t, api.Item{Kind: api.CNeg, N: 1, B: []byte("\xff"), Kids: kids}, unhex("21"))
		encodes(t, api.Item{Kind: api.CBytes, N: 1 << 40, B: []byte("\xff"), Kids: kids}, unhex("41 ff"))
		encodes(t, api.Item{Kind: api.CText, N: 1 << 40, B: []byte("a"), Kids: kids}, unhex("61 61"))
		encodes(t, api.Item{Kind: api.CFalse, N: 7, B: []byte("\xff"), Kids: kids}, unhex("f4"))
		encodes(t, api.Item{Kind: api.CTrue, N: 7, B: []byte("\xff"), Kids: kids}, unhex("f5"))
		encodes(t, api.Item{Kind: api.CNull, N: 7, B: []byte("\xff"), Kids: kids}, unhex("f6"))
		encodes(t, pairs(api.Item{Kind: api.CUint, N: 1, B: []byte("z"), Kids: kids}, number(0), api.Item{Kind: api.CUint, N: 2, B: []byte("a"), Kids: kids}, number(0)), unhex("a2 01 00 02 00"))
		encodes(t, pairs(api.Item{Kind: api.CText, N: 9, B: []byte("a"), Kids: kids}, number(0), api.Item{Kind: api.CText, N: 3, B: []byte("b"), Kids: kids}, number(0)), unhex("a2 61 61 00 61 62 00"))
		unwritten(t, pairs(api.Item{Kind: api.CUint, N: 1, B: []byte("a"), Kids: kids}, number(0), api.Item{Kind: api.CUint, N: 1, B: []byte("b")}, number(0)), api.ErrOrder)
		unwritten(t, pairs(api.Item{Kind: api.CBytes, N: 1, B: []byte("a")}, number(0), api.Item{Kind: api.CBytes, N: 2, B: []byte("a"), Kids: kids}, number(0)), api.ErrOrder)
	}
	encodes(t, api.Item{Kind: api.CArray, N: 5, B: []byte("\xff"), Kids: []api.Item{number(0)}}, unhex("81 00"))
	encodes(t, api.Item{Kind: api.CMap, N: 5, B: []byte("\xff"), Kids: []api.Item{number(0), number(1)}}, unhex("a1 00 01"))
}

func TestP62TextsThatAreNoUtf8(t *testing.T) {
	for _, s := range notUtf8 {
		unwritten(t, text(s), api.ErrText)
		unwritten(t, array(number(1), text(s)), api.ErrText)
		unwritten(t, pairs(text(s), number(1)), api.ErrText)
		unwritten(t, pairs(text("k"), text(s)), api.ErrText)
		encodes(t, octets(s), append(shortHead(2, uint64(len(s))), s...))
	}
}

func TestP62MapsWithAnOddNumberOfKids(t *testing.T) {
	for count := 1; count < 30; count += 2 {
		odd := pairs(risen(number(0), 15)[:count]...)
		unwritten(t, odd, api.ErrCbor)
		unwritten(t, array(odd), api.ErrCbor)
	}
	// Behind its depth, ahead of its keys and of all that is within it.
	unwritten(t, within(8, 0, pairs(number(1))), api.ErrDeep)
	unwritten(t, within(7, 0, pairs(number(1))), api.ErrCbor)
	unwritten(t, pairs(number(2), text("\xff"), number(1)), api.ErrCbor)
	unwritten(t, pairs(number(2), number(0), number(1)), api.ErrCbor)
	unwritten(t, pairs(text("\xff")), api.ErrCbor)
	unwritten(t, array(text("\xff"), pairs(number(1))), api.ErrText)
	unwritten(t, array(pairs(number(1)), text("\xff")), api.ErrCbor)
	many := slices.Repeat([]api.Item{number(0)}, 601)
	unwritten(t, pairs(many...), api.ErrCbor)
	unwritten(t, array(many...), api.ErrMany)
}

// What is wrong with a key comes ahead of it: of its own errors, and of being one item too many.
func TestP62WhatIsWrongAheadOfAKey(t *testing.T) {
	unwritten(t, pairs(text("b"), number(0), text("\xff"), number(0)), api.ErrText)
	unwritten(t, pairs(text("bb"), number(0), text("\xff"), number(0)), api.ErrOrder)
	unwritten(t, pairs(text("\xff"), number(0), text("\xff"), number(0)), api.ErrText)
	unwritten(t, pairs(text("a"), text("\xff"), text("a"), number(0)), api.ErrText)
	unwritten(t, pairs(number(1), number(0), number(1), text("\xff")), api.ErrOrder)
	unwritten(t, pairs(number(1), number(0), number(2), text("\xff")), api.ErrText)
	unwritten(t, pairs(array(text("\xff")), number(0)), api.ErrCbor)
	unwritten(t, pairs(within(9, 0, number(0)), number(0)), api.ErrCbor)
	unwritten(t, within(7, 0, pairs(array(), number(0))), api.ErrCbor)
	unwritten(t, within(7, 0, pairs(number(0), array())), api.ErrDeep)
	unwritten(t, pairs(array(slices.Repeat([]api.Item{number(0)}, 600)...), number(0)), api.ErrCbor)

	begun := risen(number(0), 255) // with the map 511 items; one more kid of the last value makes the next key the 513th
	begun[len(begun)-1] = array(number(0))
	unwritten(t, pairs(append(slices.Clone(begun), text("k"), number(0))...), api.ErrMany)
	unwritten(t, pairs(append(slices.Clone(begun), number(0), number(0))...), api.ErrOrder)
	unwritten(t, pairs(append(slices.Clone(begun), word(api.CNull), number(0))...), api.ErrCbor)
	unwritten(t, pairs(append(slices.Clone(begun), text("\xff"), number(0))...), api.ErrMany)
}

func TestP62OneItemTooMany(t *testing.T) {
	for _, last := range []api.Item{number(0), {}, word(99), text("\xff"), array(), pairs(number(0)), octets(strings.Repeat("a", api.MaxCbor))} {
		unwritten(t, array(append(slices.Repeat([]api.Item{number(0)}, 511), last)...), api.ErrMany)
		unwritten(t, array(append(slices.Repeat([]api.Item{number(0)}, 600), last)...), api.ErrMany)
		judgedItem(t, array(append(slices.Repeat([]api.Item{number(0)}, 510), last)...))
	}
	seven := func(count int, last api.Item) api.Item {
		return within(7, 0, array(append(slices.Repeat([]api.Item{number(0)}, count), last)...))
	}
	unwritten(t, seven(504, array()), api.ErrMany)
	unwritten(t, seven(503, array()), api.ErrDeep)
}

// The first error as the item is gone through, each ahead of its kids.
func TestP62WhichErrorComesFirst(t *testing.T) {
	unwritten(t, array(array(text("\xff")), word(0)), api.ErrText)
	unwritten(t, array(word(0), array(text("\xff"))), api.ErrCbor)
	unwritten(t, array(within(8, 0, number(0)), text("\xff")), api.ErrDeep)
	unwritten(t, array(text("\xff"), within(8, 0, number(0))), api.ErrText)
	unwritten(t, array(pairs(number(1), number(0), number(1), number(0)), text("\xff")), api.ErrOrder)
	unwritten(t, within(8, 0, array(text("\xff"))), api.ErrDeep)
	unwritten(t, within(8, 0, pairs(array(), number(0))), api.ErrDeep)
	unwritten(t, within(8, 0xff, text("\xff")), api.ErrText)
}

func TestP62TheMostBytes(t *testing.T) {
	for _, size := range []int{api.MaxCbor - 1, api.MaxCbor, api.MaxCbor + 1, api.MaxCbor + 2, 3 * api.MaxCbor} {
		whole := strings.Repeat("a", size)
		for _, item := range []api.Item{
			octets(whole[3:]), text(whole[3:]), array(octets(whole[4:])), array(octets(whole[5:]), number(1)), array(number(1), text(whole[5:])), pairs(octets(whole[5:]), word(api.CNull)), pairs(number(0), octets(whole[5:])),
			array(octets(whole[8:]), number(256)), array(octets(whole[12:]), negative(1<<40)), array(octets(whole[5:]), array()),
		} {
			if len(formOf(item)) != size && len(formOf(item)) != size+1 {
				continue // a length in more bytes
			}
			judgedItem(t, item)
			if size > api.MaxCbor {
				unwritten(t, item, api.ErrLong)
			} else if len(formOf(item)) == size {
				encodes(t, item, formOf(item))
			}
		}
	}
	encodes(t, octets(strings.Repeat("a", api.MaxCbor-3)), append(unhex("59 1ffd"), strings.Repeat("a", api.MaxCbor-3)...))
	unwritten(t, octets(strings.Repeat("a", api.MaxCbor-2)), api.ErrLong)
	most := slices.Repeat([]api.Item{octets(strings.Repeat("a", 14))}, 511)
	encodes(t, array(most...), formOf(array(most...)))
	most = slices.Repeat([]api.Item{octets(strings.Repeat("a", 16))}, 511)
	unwritten(t, array(most...), api.ErrLong)
}

// Too many bytes are told in the end, behind all that may be wrong.
func TestP62TooManyBytesComeLast(t *testing.T) {
	long := octets(strings.Repeat("a", api.MaxCbor))
	for _, wrong := range []struct {
		item api.Item
		err  api.Errno
	}{
		{word(0), api.ErrCbor}, {text("\xff"), api.ErrText}, {within(8, 0, number(0)), api.ErrDeep}, {pairs(number(0)), api.ErrCbor}, {pairs(array(), number(0)), api.ErrCbor},
		{pairs(number(1), number(0), number(0), number(0)), api.ErrOrder}, {array(slices.Repeat([]api.Item{number(0)}, 600)...), api.ErrMany},
	} {
		unwritten(t, array(long, wrong.item), wrong.err)
		unwritten(t, array(wrong.item, long), wrong.err)
		unwritten(t, pairs(number(0), long, number(1), array(long, wrong.item)), wrong.err)
	}
	unwritten(t, text(strings.Repeat("a", api.MaxCbor)+"\xff"), api.ErrText)
	unwritten(t, pairs(long, number(0), long, number(0)), api.ErrOrder)
	unwritten(t, array(slices.Repeat([]api.Item{long}, 511)...), api.ErrLong)
	unwritten(t, array(slices.Repeat([]api.Item{long}, 512)...), api.ErrMany)
	unwritten(t, array(long, number(0), number(1)), api.ErrLong)
}

// An item that is within itself is refused like another one that is too deep, or too many.
func TestP1ItemsWithinThemselves(t *testing.T) {
	loop := make([]api.Item, 1)
	loop[0] = array(loop...)
	unwritten(t, loop[0], api.ErrDeep)
	wide := make([]api.Item, 600)
	for at := range wide {
		wide[at] = number(0)
	}
	wide[1] = api.Item{Kind: api.CArray, Kids: wide}
	unwritten(t, array(wide...), api.ErrDeep)
	wide[1], wide[599] = number(0), api.Item{Kind: api.CArray, Kids: wide}
	unwritten(t, array(wide...), api.ErrMany)
}
