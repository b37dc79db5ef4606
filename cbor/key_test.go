package cbor_test

import (
	"math"
	"slices"
	"strings"
	"testing"

	"latchkey/api"
)

// rising are keys of each kind, each greater than the one ahead.
var rising = []api.Item{
	number(0), number(1), number(23), number(24), number(255), number(256), number(65535), number(65536), number(math.MaxUint32), number(math.MaxUint32 + 1), number(math.MaxUint64),
	negative(0), negative(1), negative(23), negative(24), negative(256), negative(65536), negative(1 << 63), negative(math.MaxUint64),
	octets(""), octets("\x00"), octets("\x01"), octets("a"), octets("b"), octets("\x7f"), octets("\x80"), octets("\xff"), octets("\x00\x00"), octets("\x00\xff"), octets("\x01\x00"), octets("ab"), octets("ba"), octets("aaa"), octets(strings.Repeat("\xff", 23)), octets(strings.Repeat("\x00", 24)), octets(strings.Repeat("z", 255)), octets(strings.Repeat("a", 256)),
	text(""), text("\x00"), text("A"), text("a"), text("b"), text("z"), text("\x7f"), text("aa"), text("ab"), text("ba"), text("\u00e9"), text("aaa"), text("\u20ac"), text("fmt!"), text("\U0001f511"), text(strings.Repeat("z", 23)), text(strings.Repeat("a", 24)), text(strings.Repeat("z", 255)), text(strings.Repeat("a", 256)),
}

func TestP61KeysTwoByTwo(t *testing.T) {
	for a, first := range rising {
		for b, second := range rising {
			item := pairs(first, number(0), second, word(api.CNull))
			if a < b {
				decodes(t, formOf(item), item)
				encodes(t, item, formOf(item))
				continue
			}
			refused(t, formOf(item), api.ErrOrder)
			unwritten(t, item, api.ErrOrder)
		}
	}
}

func TestP61AllKeysInTheirOrder(t *testing.T) {
	var kids []api.Item
	for at, key := range rising {
		kids = append(kids, key, number(uint64(at)))
	}
	decodes(t, formOf(pairs(kids...)), pairs(kids...))
	encodes(t, pairs(kids...), formOf(pairs(kids...)))
	// The last key is held against the one ahead of it, not against the first.
	for at := 2; at+2 < len(kids); at += 2 {
		moved := slices.Clone(kids)
		moved[at], moved[at+2] = moved[at+2], moved[at]
		refused(t, formOf(pairs(moved...)), api.ErrOrder)
		unwritten(t, pairs(moved...), api.ErrOrder)
	}
}

// An error of order stands behind the key: what follows isn't looked at.
func TestP61WhatStandsBehindAKeyThatDoesNotRise(t *testing.T) {
	for _, begun := range []string{"a2 02 00 01", "a2 01 00 01", "a2 20 00 17", "a2 41 00 00 40", "a2 61 61 00 61 61", "a2 60 00 58 18 000000000000000000000000000000000000000000000000", "bb ffffffffffffffff 02 00 01", "a2 01 a0 00"} {
		for _, behind := range []string{"", "00", "18", "18 17", "1c", "61 ff", "f7", "81 81 81 81 81 81 81 81 81"} {
			refused(t, slices.Concat(unhex(begun), unhex(behind)), api.ErrOrder)
			refused(t, slices.Concat(unhex("81"), unhex(begun), unhex(behind)), api.ErrOrder)
		}
	}
	refused(t, unhex("a2 02 18 17 01 00"), api.ErrShort)
	refused(t, unhex("a2 02 61 ff 01 00"), api.ErrText)
	refused(t, unhex("a2 02 00 18 01 00"), api.ErrShort)
	refused(t, unhex("a2 61 62 00 61 ff 00"), api.ErrText)
	refused(t, unhex("a2 62 62 62 00 61 ff 00"), api.ErrText)
	refused(t, unhex("a2 02 00"), api.ErrCbor)
	refused(t, unhex("a2 02 00 41"), api.ErrCbor)
}

// notKeys are items that may be no key.
var notKeys = []api.Item{array(), array(number(1)), pairs(), pairs(number(1), number(2)), word(api.CFalse), word(api.CTrue), word(api.CNull)}

func TestP61KeysThatMayBeNone(t *testing.T) {
	for _, key := range notKeys {
		for _, behind := range []string{"", "00", "18 17", "1c", "61 ff", "f7"} {
			refused(t, slices.Concat(unhex("a1"), formOf(key), unhex(behind)), api.ErrCbor)
			refused(t, slices.Concat(unhex("a2 60 00"), formOf(key), unhex(behind)), api.ErrCbor)
			refused(t, slices.Concat(unhex("a2"), formOf(key), unhex("00 00"), unhex(behind)), api.ErrCbor)
		}
		unwritten(t, pairs(key, number(0)), api.ErrCbor)
		unwritten(t, pairs(number(0), number(0), key, number(0)), api.ErrCbor)
		unwritten(t, pairs(text("a"), key, key, key), api.ErrCbor)
		item := pairs(text("a"), key, text("b"), key)
		decodes(t, formOf(item), item)
		encodes(t, item, formOf(item))
	}
	// A key is gone through ahead of being none: its own errors come first.
	for form, want := range map[string]api.Errno{
		"a1 81 18 17": api.ErrShort, "a1 81 61 ff": api.ErrText, "a1 81": api.ErrCbor, "a1 a2 02 00 01 00": api.ErrOrder, "a1 a1 80 00": api.ErrCbor,
		"a1 81 81 81 81 81 81 81 81": api.ErrDeep, "a1 81 81 81 81 81 81 81 00": api.ErrCbor, "a1 98 17": api.ErrShort,
	} {
		refused(t, unhex(form), want)
	}
	refused(t, slices.Concat(unhex("a1 99 01ff"), repeated("00", 511)), api.ErrMany)
	refused(t, slices.Concat(unhex("a1 99 01fe"), repeated("00", 510)), api.ErrCbor)
}

// Each map has keys of its own; values don't count.
func TestP61KeysOfTwoMaps(t *testing.T) {
	for _, item := range []api.Item{
		array(pairs(number(1), number(2)), pairs(number(1), number(2))),
		pairs(number(1), pairs(number(1), pairs(number(0), number(0)))),
		pairs(number(5), pairs(text("z"), number(0)), number(6), number(1)),
		pairs(number(5), number(9), number(6), number(1), negative(0), negative(0)),
		pairs(number(5), array(number(7), number(6)), number(6), array(number(1))),
	} {
		decodes(t, formOf(item), item)
		encodes(t, item, formOf(item))
	}
	for _, item := range []api.Item{
		pairs(number(5), pairs(text("z"), number(0)), number(5), number(1)),
		pairs(number(5), pairs(text("z"), number(0), text("a"), number(0)), number(6), number(1)),
		array(pairs(number(1), number(2)), pairs(number(2), number(2), number(1), number(0))),
	} {
		refused(t, formOf(item), api.ErrOrder)
		unwritten(t, item, api.ErrOrder)
	}
}
