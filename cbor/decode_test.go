package cbor_test

import (
	"bytes"
	"fmt"
	"math"
	"slices"
	"strings"
	"testing"

	"latchkey/api"
)

func TestP61Examples(t *testing.T) {
	bothWays(t, "a1 01 02", pairs(number(1), number(2)))
	refused(t, unhex("18 17"), api.ErrShort)
	refused(t, unhex("a2 02 00 01 00"), api.ErrOrder)
	refused(t, unhex("f7"), api.ErrCbor)
}

// Items and their forms, as RFC 8949 (appendix A) and the chapter have them.
func TestP61ItemsOfEveryKind(t *testing.T) {
	bothWays(t, "00", number(0))
	bothWays(t, "0a", number(10))
	bothWays(t, "1b 000000e8d4a51000", number(1000000000000))
	bothWays(t, "20", negative(0))
	bothWays(t, "29", negative(9))
	bothWays(t, "38 63", negative(99))
	bothWays(t, "39 03e7", negative(999))
	bothWays(t, "40", octets(""))
	bothWays(t, "44 01020304", octets("\x01\x02\x03\x04"))
	bothWays(t, "43 ff80c0", octets("\xff\x80\xc0"))
	bothWays(t, "60", text(""))
	bothWays(t, "64 49455446", text("IETF"))
	bothWays(t, "62 225c", text("\"\\"))
	bothWays(t, "62 c3bc", text("\u00fc"))
	bothWays(t, "63 e6b0b4", text("\u6c34"))
	bothWays(t, "64 f0908591", text("\U00010151"))
	bothWays(t, "80", array())
	bothWays(t, "83 01 02 03", array(number(1), number(2), number(3)))
	bothWays(t, "a0", pairs())
	bothWays(t, "f4", word(api.CFalse))
	bothWays(t, "f5", word(api.CTrue))
	bothWays(t, "f6", word(api.CNull))
}

func TestP61ItemsWithinOneAnother(t *testing.T) {
	bothWays(t, "83 01 82 02 03 82 04 05", array(number(1), array(number(2), number(3)), array(number(4), number(5))))
	bothWays(t, "a2 61 61 01 61 62 82 02 03", pairs(text("a"), number(1), text("b"), array(number(2), number(3))))
	bothWays(t, "82 61 61 a1 61 62 61 63", array(text("a"), pairs(text("b"), text("c"))))
	bothWays(t, "a5 01 f4 20 f5 40 f6 41 00 a0 60 80",
		pairs(number(1), word(api.CFalse), negative(0), word(api.CTrue), octets(""), word(api.CNull), octets("\x00"), pairs(), text(""), array()))
	bothWays(t, "a1 01 a1 01 a1 01 a1 01 01", pairs(number(1), pairs(number(1), pairs(number(1), pairs(number(1), number(1))))))
	bothWays(t, "87 f4 f5 f6 40 60 80 a0", array(word(api.CFalse), word(api.CTrue), word(api.CNull), octets(""), text(""), array(), pairs()))
	var all []api.Item
	form := "98 19"
	for n := range 25 {
		all = append(all, number(uint64(n)))
		if n < 24 {
			form += fmt.Sprintf("%02x", n)
		}
	}
	bothWays(t, form+"18 18", array(all...))
}

// edges are numbers at the edges of each size, with how many bytes they have behind the first one.
var edges = []struct {
	n    uint64
	size int
}{
	{0, 0}, {1, 0}, {22, 0}, {23, 0}, {24, 1}, {25, 1}, {27, 1}, {31, 1}, {32, 1}, {254, 1}, {255, 1}, {256, 2}, {257, 2}, {65534, 2}, {65535, 2}, {65536, 4}, {65537, 4},
	{1<<24 - 1, 4}, {1 << 24, 4}, {math.MaxUint32 - 1, 4}, {math.MaxUint32, 4}, {math.MaxUint32 + 1, 8}, {math.MaxUint32 + 2, 8}, {1<<63 - 1, 8}, {1 << 63, 8}, {math.MaxUint64 - 1, 8}, {math.MaxUint64, 8},
}

func TestP61NumbersAtTheEdgesOfEachSize(t *testing.T) {
	for _, edge := range edges {
		for kind, item := range []api.Item{number(edge.n), negative(edge.n)} {
			decodes(t, head(kind, edge.n, edge.size), item)
			encodes(t, item, head(kind, edge.n, edge.size))
		}
	}
	bothWays(t, "17", number(23))
	bothWays(t, "18 18", number(24))
	bothWays(t, "18 ff", number(255))
	bothWays(t, "19 0100", number(256))
	bothWays(t, "19 ffff", number(65535))
	bothWays(t, "1a 00010000", number(65536))
	bothWays(t, "1a ffffffff", number(1<<32-1))
	bothWays(t, "1b 0000000100000000", number(1<<32))
	bothWays(t, "1b ffffffffffffffff", number(1<<64-1))
	bothWays(t, "3b ffffffffffffffff", negative(1<<64-1))
	bothWays(t, "1b 0102030405060708", number(0x0102030405060708))
	bothWays(t, "1a 01020304", number(0x01020304))
	bothWays(t, "19 0102", number(0x0102))
}

// Whatever kind it is of, and whatever it says, a number that may be shorter is refused for that; of kind 6 too.
func TestP61NumbersThatMayBeShorter(t *testing.T) {
	for _, edge := range edges {
		for _, size := range []int{1, 2, 4, 8} {
			if size <= edge.size {
				continue
			}
			for kind := range 7 {
				long := head(kind, edge.n, size)
				refused(t, long, api.ErrShort)
				refused(t, slices.Concat(long, []byte("\xff\xff")), api.ErrShort)
				refused(t, slices.Concat([]byte{0x82, 0x01}, long), api.ErrShort)
				refused(t, slices.Concat([]byte{0xa1}, long), api.ErrShort)
				refused(t, slices.Concat([]byte{0xa1, 0x01}, long), api.ErrShort)
			}
		}
	}
}

func TestP61SizesThatAreNone(t *testing.T) {
	for kind := range 8 {
		for low := 28; low < 32; low++ {
			first := byte(kind<<5 | low)
			for behind := range 20 {
				for _, fill := range []byte{0, 1, 0x80, 0xff} {
					refused(t, append([]byte{first}, bytes.Repeat([]byte{fill}, behind)...), api.ErrCbor)
				}
			}
		}
	}
	for _, s := range []string{"5f 41 00 ff", "7f 61 61 ff", "9f 01 ff", "bf 01 02 ff", "9f ff", "bf ff", "82 01 1c", "a1 1f 00", "a1 01 5f"} {
		refused(t, unhex(s), api.ErrCbor)
	}
}

func TestP61BytesOfKind6(t *testing.T) {
	for n := range 24 {
		for _, behind := range []string{"", "\x00", "\x60", "\x18\x17", "\xff", "\xc0\x00"} {
			refused(t, append([]byte{byte(0xc0 + n)}, behind...), api.ErrCbor)
		}
	}
	for _, edge := range edges {
		refused(t, head(6, edge.n, edge.size), api.ErrCbor)
		refused(t, append(head(6, edge.n, edge.size), 0), api.ErrCbor)
	}
	for _, s := range []string{"d8", "d9 01", "da 01 02 03", "db 01 02 03 04 05 06 07", "81 c0 00", "a1 c0 00 00", "a1 00 c0 00", "c0 74 32303133"} {
		refused(t, unhex(s), api.ErrCbor)
	}
	refused(t, unhex("d8 17"), api.ErrShort)
	refused(t, unhex("d8 17 00"), api.ErrShort)
	refused(t, unhex("d9 00 ff"), api.ErrShort)
}

// Whatever stands behind it: a number that may be shorter too.
func TestP61BytesOfKind7(t *testing.T) {
	for first := 0xe0; first <= 0xff; first++ {
		for _, behind := range []string{"", "\x00", "\x17", "\x00\x00", "\x00\x00\x00\x00", "\x00\x00\x00\x00\x00\x00\x00\x00", "\xff", "\x18\x17"} {
			b := append([]byte{byte(first)}, behind...)
			if first >= 0xf4 && first <= 0xf6 {
				begins(t, b, word(api.CFalse+api.ItemKind(first-0xf4)), []byte(behind))
				continue
			}
			refused(t, b, api.ErrCbor)
			refused(t, append([]byte{0x81}, b...), api.ErrCbor)
			refused(t, append([]byte{0xa1}, b...), api.ErrCbor)
			refused(t, append([]byte{0xa1, 0x00}, b...), api.ErrCbor)
		}
	}
	refused(t, unhex("f8 14"), api.ErrCbor)
	refused(t, unhex("f9 3c00"), api.ErrCbor)
	refused(t, unhex("fb 3ff199999999999a"), api.ErrCbor)
}

func TestP61NoBytes(t *testing.T) {
	refused(t, nil, api.ErrCbor)
	refused(t, []byte{}, api.ErrCbor)
}

func TestP61BytesThatEndWithinANumber(t *testing.T) {
	for kind := range 8 {
		for _, size := range []int{1, 2, 4, 8} {
			for _, fill := range []byte{0, 0x17, 0xff} {
				long := head(kind, 0, size)
				for at := 1; at < len(long); at++ {
					long[at] = fill
				}
				for end := 1; end < len(long); end++ {
					refused(t, long[:end], api.ErrCbor)
					refused(t, append([]byte{0x82, 0x01}, long[:end]...), api.ErrCbor)
				}
			}
		}
	}
}

// nestedForm is one whose pieces end at many places.
const nestedForm = "a4 01 83 40 18 64 7818 616161616161616161616161616161616161616161616161 21 58 19 000102030405060708090a0b0c0d0e0f101112131415161718 41 00 a1 62 c3bc 80 63 616263 f6"

func TestP61BytesThatEndTooSoon(t *testing.T) {
	whole := unhex(nestedForm)
	if err, size := judge(whole); err != api.OK || size != len(whole) {
		t.Fatal(err, size)
	}
	judged(t, whole)
	for end := range len(whole) {
		refused(t, whole[:end], api.ErrCbor)
	}
	for _, s := range []string{"41", "42 01", "58 18 00", "59 0100 00", "61", "62 61", "78 18 61", "81", "82 01", "98 18 00", "a1", "a1 01", "a2 01 02", "a2 01 02 03", "b8 18 00 00", "9b ffffffffffffffff", "9b ffffffffffffffff 00", "bb ffffffffffffffff", "bb 8000000000000000", "bb 8000000000000000 00 00", "ba ffffffff 01 01"} {
		refused(t, unhex(s), api.ErrCbor)
	}
}

func TestP61BytesAndTextsOfEveryLength(t *testing.T) {
	for _, size := range []int{0, 1, 2, 22, 23, 24, 25, 254, 255, 256, 257, 1000, api.MaxCbor - 3} {
		whole := strings.Repeat("a", size)
		for kind, item := range map[int]api.Item{2: octets(whole), 3: text(whole)} {
			form := append(shortHead(kind, uint64(size)), whole...)
			decodes(t, form, item)
			encodes(t, item, form)
			if size > 0 {
				refused(t, form[:len(form)-1], api.ErrCbor)
			}
		}
	}
}

// Lengths are held against what is left as they are, not as what an int makes of them.
func TestP61LengthsBeyondWhatIsLeft(t *testing.T) {
	for _, n := range []uint64{5, 6, 24, 255, 256, 65535, 65536, 1<<31 - 1, 1 << 31, 1 << 32, 1<<32 + 4, 1<<63 - 1, 1 << 63, 1<<63 + 4, math.MaxUint64 - 4, math.MaxUint64 - 1, math.MaxUint64} {
		for _, kind := range []int{2, 3} {
			for _, behind := range []string{"", "a", "abcd", "\xff\xff\xff\xff"} {
				refused(t, append(shortHead(kind, n), behind...), api.ErrCbor)
				refused(t, slices.Concat([]byte{0x81}, shortHead(kind, n), []byte(behind)), api.ErrCbor)
				refused(t, slices.Concat([]byte{0xa1}, shortHead(kind, n), []byte(behind)), api.ErrCbor)
			}
		}
	}
	refused(t, unhex("62 ff"), api.ErrCbor)
	begins(t, unhex("42 ffff 00"), octets("\xff\xff"), []byte{0})
}

// notUtf8 are bytes that are no UTF-8.
var notUtf8 = []string{
	"\x80", "\xbf", "\xc0\x80", "\xc1\x81", "\xc1\xbf", "\xc3", "\xc3(", "\xe0\x80\x80", "\xe0\x9f\xbf", "\xe2\x82", "\xe2\x82x", "\xed\xa0\x80", "\xed\xbf\xbf", "\xed\xa0\xbd\xed\xb4\x91",
	"\xf0\x80\x80\x80", "\xf0\x8f\xbf\xbf", "\xf0\x9f\x94", "\xf4\x90\x80\x80", "\xf5\x80\x80\x80", "\xf8\x88\x80\x80\x80", "\xfe", "\xff", "\u00e9\x80", "\xc3\u00e9", "\xef\xbf", "\ufffd\xff", "a\xffb",
}

func TestP61TextsThatAreNoUtf8(t *testing.T) {
	for _, s := range notUtf8 {
		form := append(shortHead(3, uint64(len(s))), s...)
		refused(t, form, api.ErrText)
		refused(t, append(form, 0xff), api.ErrText)
		refused(t, slices.Concat([]byte{0x81}, form), api.ErrText)
		refused(t, slices.Concat([]byte{0xa1}, form), api.ErrText)
		refused(t, slices.Concat([]byte{0xa1, 0x00}, form), api.ErrText)
		unwritten(t, text(s), api.ErrText)
		form[0] -= 0x20
		decodes(t, form, octets(s))
	}
}

func TestP61TextsThatAreUtf8(t *testing.T) {
	for _, sign := range []rune{0, 1, 0x1f, 0x20, 0x7f, 0x80, 0x7ff, 0x800, 0x2028, 0xd7ff, 0xe000, 0xfdd0, 0xfeff, 0xfffd, 0xfffe, 0xffff, 0x10000, 0x1f511, 0x10ffff} {
		s := "k" + string(sign) + string(sign)
		decodes(t, append(shortHead(3, uint64(len(s))), s...), text(s))
		encodes(t, text(s), append(shortHead(3, uint64(len(s))), s...))
	}
	// A sign that is cut by the text's end is none, though the other half stands behind.
	refused(t, unhex("61 c3 bc"), api.ErrText)
	begins(t, unhex("62 c3 bc bc"), text("\u00fc"), []byte{0xbc})
}

func TestP61WhatIsLeft(t *testing.T) {
	begins(t, unhex("00 18 17"), number(0), unhex("18 17"))
	begins(t, unhex("f6 f6"), word(api.CNull), unhex("f6"))
	begins(t, unhex("42 01 02 03 04"), octets("\x01\x02"), unhex("03 04"))
	begins(t, unhex("60 ff"), text(""), unhex("ff"))
	begins(t, unhex("80 9f"), array(), unhex("9f"))
	begins(t, unhex("81 80 80"), array(array()), unhex("80"))
	begins(t, unhex("a1 01 02 00 03"), pairs(number(1), number(2)), unhex("00 03"))
	begins(t, unhex("a0 a2 02 00 01 00"), pairs(), unhex("a2 02 00 01 00"))
	long := bytes.Repeat([]byte{0xff}, api.MaxCbor-1)
	begins(t, append([]byte{0x05}, long...), number(5), long)
	wholeRefused(t, append([]byte{0x05}, long...), api.ErrCbor)
	wholeRefused(t, unhex("a1 01 02 00"), api.ErrCbor)
	wholeRefused(t, unhex("00 00"), api.ErrCbor)
}

// All bytes alone, all two, and three and four where the first ones open something.
func TestP61FewBytes(t *testing.T) {
	for one := range 256 {
		judged(t, []byte{byte(one)})
		for two := range 256 {
			judged(t, []byte{byte(one), byte(two)})
			for _, first := range []byte{0x19, 0x59, 0x62, 0x81, 0x82, 0xa1, 0xa2, 0xd9} {
				judged(t, []byte{first, byte(one), byte(two)})
			}
			judged(t, []byte{0xa2, byte(one), 0x00, byte(two), 0x00})
			judged(t, []byte{0xa2, 0x18, byte(one), 0x00, 0x18, byte(two), 0x00})
			judged(t, []byte{0xa2, 0x41, byte(one), 0x00, 0x41, byte(two), 0x00})
			judged(t, []byte{0x62, byte(one), byte(two)})
		}
	}
}
