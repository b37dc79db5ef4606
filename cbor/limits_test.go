package cbor_test

import (
	"bytes"
	"slices"
	"strings"
	"testing"

	"latchkey/api"
)

func TestP61TheMostBytes(t *testing.T) {
	for _, size := range []int{api.MaxCbor - 1, api.MaxCbor} {
		whole := strings.Repeat("a", size-3)
		decodes(t, append(shortHead(2, uint64(size-3)), whole...), octets(whole))
		decodes(t, append(shortHead(3, uint64(size-3)), whole...), text(whole))
		begins(t, append([]byte{0x00}, make([]byte, size-1)...), number(0), make([]byte, size-1))
		refused(t, bytes.Repeat([]byte{0xff}, size), api.ErrCbor)
		refused(t, bytes.Repeat([]byte{0x81}, size), api.ErrDeep)
	}
}

// Too many bytes are refused for that, whatever they hold, and though few of them are the item.
func TestP61TooManyBytesComeFirst(t *testing.T) {
	for _, size := range []int{api.MaxCbor + 1, api.MaxCbor + 2, 2 * api.MaxCbor, 1 << 20} {
		for first := range 256 {
			refused(t, append([]byte{byte(first)}, make([]byte, size-1)...), api.ErrLong)
		}
		for _, form := range []string{"18 17", "a2 02 00 01 00", "f7", "61 ff", "1c", "81 81 81 81 81 81 81 81 81", "9b ffffffffffffffff", "a1 01 02"} {
			refused(t, append(unhex(form), make([]byte, size-len(unhex(form)))...), api.ErrLong)
		}
		whole := strings.Repeat("a", size-5)
		refused(t, append(head(2, uint64(size-5), 4), whole...), api.ErrLong)
	}
}

// repeated: so many forms of a kind, one behind another.
func repeated(form string, count int) []byte { return bytes.Repeat(unhex(form), count) }

// risen: so many pairs with keys that rise, each with that value.
func risen(value api.Item, count int) []api.Item {
	var kids []api.Item
	for at := range count {
		kids = append(kids, number(uint64(at)), value)
	}
	return kids
}

// full are items that are, with all within them, as many as there may be.
func full() []api.Item {
	most := api.MaxItems - 1
	var items []api.Item
	for _, kid := range []api.Item{number(1), negative(1), octets("a"), text("b"), array(), pairs(), word(api.CFalse), word(api.CTrue), word(api.CNull)} {
		items = append(items, array(slices.Repeat([]api.Item{kid}, most)...))
		items = append(items, array(pairs(risen(kid, (most-1)/2)...)))
		items = append(items, pairs(append(risen(kid, (most-3)/2), text("k"), array(kid))...))
	}
	return append(items,
		array(append(slices.Repeat([]api.Item{array(number(1))}, most/2), number(2))...),
		array(append(slices.Repeat([]api.Item{pairs(number(1), array(number(2)))}, most/4), number(2), number(2), number(2))...),
		pairs(append(risen(number(1), (most-3)/2), text("k"), array(array()))...))
}

func TestP61TheMostItems(t *testing.T) {
	for _, item := range full() {
		if err, size := judge(formOf(item)); err != api.OK || size == 0 {
			t.Fatal(err)
		}
		decodes(t, formOf(item), item)
		encodes(t, item, formOf(item))
		more := array(item)
		refused(t, formOf(more), api.ErrMany)
		unwritten(t, more, api.ErrMany)
		more = array(append(slices.Clone(item.Kids), number(0))...)
		judged(t, formOf(more))
		judgedItem(t, more)
	}
	// Items behind the whole one don't count.
	begins(t, repeated("00", 600), number(0), repeated("00", 599))
	begins(t, append(repeated("80", 1), repeated("00", 600)...), array(), repeated("00", 600))
}

// Where a 513th item should begin, what stands there in its place isn't looked at any more.
func TestP61OneItemTooManyComesAheadOfWhatStandsThere(t *testing.T) {
	there := []string{"", "00", "18", "18 17", "1c", "41", "61 ff", "61", "80", "81", "9f", "a0", "c0", "d8 17", "f4", "f7", "ff", "fb"}
	for _, count := range []string{"99 0200", "99 0201", "99 ffff", "9a 00010000", "9b ffffffffffffffff"} {
		for _, form := range there {
			for _, kid := range []string{"00", "20", "40", "60", "80", "a0", "f4"} {
				refused(t, slices.Concat(unhex(count), repeated(kid, 511), unhex(form)), api.ErrMany)
				refused(t, slices.Concat(unhex("81"), unhex(count), repeated(kid, 510), unhex(form)), api.ErrMany)
			}
		}
	}
	keys := formOf(pairs(risen(number(0), 255)...))[2:]
	for _, count := range []string{"b9 0100", "b9 0101", "bb 8000000000000000", "bb ffffffffffffffff"} {
		for _, form := range there {
			refused(t, slices.Concat(unhex(count), keys, unhex("60"), unhex(form)), api.ErrMany)
			refused(t, slices.Concat(unhex("81"), unhex(count), keys, unhex(form)), api.ErrMany)
		}
	}
	eight := slices.Concat(repeated("81", 7), unhex("99 01f9"), repeated("00", 504))
	refused(t, append(eight, 0x81), api.ErrMany)
	refused(t, eight, api.ErrMany)
}

// At the 512th item the other errors come, and behind it as a key too.
func TestP61OtherErrorsAheadOfOneItemTooMany(t *testing.T) {
	begun := slices.Concat(unhex("99 0201"), repeated("00", 510))
	for form, want := range map[string]api.Errno{
		"": api.ErrCbor, "18": api.ErrCbor, "18 17": api.ErrShort, "1c": api.ErrCbor, "41": api.ErrCbor, "61 ff": api.ErrText, "c0 00": api.ErrCbor, "d8 17": api.ErrShort, "f7": api.ErrCbor,
		"00": api.ErrMany, "81": api.ErrMany, "a1": api.ErrMany, "80": api.ErrMany, "f6": api.ErrMany,
	} {
		refused(t, slices.Concat(begun, unhex(form)), want)
	}
	keys := slices.Concat(unhex("b9 0100"), formOf(pairs(risen(number(0), 255)...))[2:])
	for form, want := range map[string]api.Errno{
		"": api.ErrCbor, "00": api.ErrOrder, "18 fe": api.ErrOrder, "18 17": api.ErrShort, "80": api.ErrCbor, "81": api.ErrMany, "f4": api.ErrCbor, "18 ff": api.ErrMany, "60": api.ErrMany,
	} {
		refused(t, slices.Concat(keys, unhex(form)), want)
	}
	// A bracket too deep that is the 512th, and one that would be the 513th.
	deep := func(zeros int) []byte {
		return slices.Concat(repeated("81", 7), unhex("99 0200"), repeated("00", zeros), unhex("80"))
	}
	refused(t, deep(503), api.ErrDeep)
	refused(t, deep(504), api.ErrMany)
}

// within: an item within so many arrays or maps, as bits say; in a map's value.
func within(count, bits int, inner api.Item) api.Item {
	for at := range count {
		if bits>>at&1 == 0 {
			inner = array(inner)
		} else {
			inner = pairs(number(7), inner)
		}
	}
	return inner
}

func TestP61TheMostWithinOneAnother(t *testing.T) {
	for bits := range 1 << api.MaxNest {
		for _, inner := range []api.Item{array(), pairs(), array(number(1)), pairs(number(1), number(2))} {
			item := within(api.MaxNest-1, bits, inner)
			decodes(t, formOf(item), item)
			encodes(t, item, formOf(item))
			deep := within(api.MaxNest, bits, inner)
			refused(t, formOf(deep), api.ErrDeep)
			unwritten(t, deep, api.ErrDeep)
			end := len(formOf(within(api.MaxNest, bits, number(0)))) - 1
			refused(t, formOf(deep)[:end+1], api.ErrDeep)
			refused(t, formOf(deep)[:end], api.ErrCbor)
		}
		for _, inner := range []api.Item{number(1), text("a"), octets("\x80"), word(api.CNull)} {
			item := within(api.MaxNest, bits, inner)
			decodes(t, formOf(item), item)
			encodes(t, item, formOf(item))
		}
	}
}

// Behind the number of an array or a map: what is wrong with the number comes first; what stands behind isn't looked at.
func TestP61WhatComesAheadOfOneTooDeep(t *testing.T) {
	eight := repeated("81", 8)
	for form, want := range map[string]api.Errno{
		"80": api.ErrDeep, "a0": api.ErrDeep, "81": api.ErrDeep, "9b ffffffffffffffff": api.ErrDeep, "bb ffffffffffffffff": api.ErrDeep, "98 18": api.ErrDeep, "81 ff": api.ErrDeep, "81 18 17": api.ErrDeep, "a2 02 00 01 00": api.ErrDeep,
		"98 17": api.ErrShort, "b8 00": api.ErrShort, "98": api.ErrCbor, "9f": api.ErrCbor, "bf": api.ErrCbor, "c0 80": api.ErrCbor, "18 17": api.ErrShort, "61 ff": api.ErrText, "": api.ErrCbor,
	} {
		refused(t, slices.Concat(eight, unhex(form)), want)
	}
	// A key is gone through ahead of being none.
	refused(t, slices.Concat(repeated("81", 7), unhex("a1 80")), api.ErrDeep)
	refused(t, slices.Concat(repeated("81", 6), unhex("a1 80")), api.ErrCbor)
	refused(t, slices.Concat(unhex("a2 02 00 01"), repeated("81", 9)), api.ErrOrder)
	refused(t, slices.Concat(unhex("a2 01 00 02"), repeated("81", 9)), api.ErrDeep)
}

// Arrays and maps that are closed don't count: many beside one another, at every depth.
func TestP61BracketsBesideOneAnother(t *testing.T) {
	for depth := range api.MaxNest - 1 {
		item := within(depth, 0x2d, array(array(), pairs(), array(), pairs(number(1), number(2)), array(number(3))))
		decodes(t, formOf(item), item)
		encodes(t, item, formOf(item))
	}
	eight := within(api.MaxNest-1, 0x5a, number(1))
	var many []api.Item
	for range 20 {
		many = append(many, eight)
	}
	decodes(t, formOf(array(many...)), array(many...))
	encodes(t, array(many...), formOf(array(many...)))
	more := array(append(many, within(api.MaxNest, 0x33, number(1)))...)
	refused(t, formOf(more), api.ErrDeep)
	unwritten(t, more, api.ErrDeep)
}
