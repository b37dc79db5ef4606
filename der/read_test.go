package der_test

import (
	"bytes"
	"encoding/asn1"
	"math/rand"
	"slices"
	"testing"

	"latchkey/api"
	"latchkey/der"
)

func TestP101Tags(t *testing.T) {
	for name, pair := range map[string][2]int{
		"TBool": {der.TBool, 0x01}, "TInt": {der.TInt, 0x02}, "TBits": {der.TBits, 0x03}, "TOct": {der.TOct, 0x04}, "TNull": {der.TNull, 0x05},
		"TOid": {der.TOid, 0x06}, "TUtc": {der.TUtc, 0x17}, "TTime": {der.TTime, 0x18}, "TSeq": {der.TSeq, 0x30}, "TSet": {der.TSet, 0x31},
	} {
		if pair[0] != pair[1] {
			t.Errorf("%s is %x, not %x", name, pair[0], pair[1])
		}
	}
}

func TestP101ReadExamples(t *testing.T) {
	reads(t, unhex("30 03 02 01 05"), piece(0x30, "02 01 05"), nil)
	reads(t, unhex("02 01 05"), piece(0x02, "05"), nil)
	reads(t, unhex("02 02 00 05"), piece(0x02, "00 05"), nil)
	reads(t, unhex("06 03 2a 86 48"), piece(0x06, "2a 86 48"), nil)
	reads(t, unhex("05 00"), piece(0x05, ""), nil)
}

func TestP101ReadOfNothing(t *testing.T) {
	refused(t, nil, api.ErrDer)
	refused(t, []byte{}, api.ErrDer)
	lists(t, nil, nil)
	lists(t, []byte{}, nil)
}

// A tag alone is no piece; a tag whose five lowest bits are all set is none, all others are.
func TestP101ReadOfEachTag(t *testing.T) {
	for tag := range 256 {
		refused(t, []byte{byte(tag)}, api.ErrDer)
		for _, size := range []int{0, 1, 127, 128, 255, 256, 4092} {
			one := api.Tlv{Tag: byte(tag), Body: body(size)}
			switch tag {
			case 0x1f, 0x3f, 0x5f, 0x7f, 0x9f, 0xbf, 0xdf, 0xff:
				refused(t, formOf(one), api.ErrDer)
			default:
				reads(t, formOf(one), one, nil)
			}
		}
	}
}

// Each length is read in its shortest form, and in no other one.
func TestP101ReadOfEachLength(t *testing.T) {
	for _, size := range []int{0, 1, 126, 127, 128, 129, 254, 255, 256, 257, 511, 512, 4000, 4080} {
		one := api.Tlv{Tag: der.TOct, Body: body(size)}
		reads(t, formOf(one), one, nil)
		for digits := range 9 {
			if digits < 8 && size>>(8*digits) > 0 {
				continue // it does not fit
			}
			form := slices.Concat([]byte{der.TOct}, lengthOf(uint64(size), digits), one.Body)
			if bytes.Equal(form, formOf(one)) {
				reads(t, form, one, nil)
			} else {
				refused(t, form, api.ErrDer)
			}
		}
	}
}

// A length in one byte, in 81 and each byte, and in 82 and each two.
func TestP101ReadOfAllLengths(t *testing.T) {
	rest := body(4000)
	for first := range 0x80 {
		b := append([]byte{4, byte(first)}, rest...)
		reads(t, b, api.Tlv{Tag: 4, Body: rest[:first]}, rest[first:])
	}
	for size := range 0x100 {
		b := append([]byte{4, 0x81, byte(size)}, rest...)
		if size < 0x80 {
			refused(t, b, api.ErrDer)
		} else {
			reads(t, b, api.Tlv{Tag: 4, Body: rest[:size]}, rest[size:])
		}
	}
	for size := range 0x10000 {
		b := append([]byte{4, 0x82, byte(size >> 8), byte(size)}, rest...)
		if size < 0x100 || size > len(rest) {
			refused(t, b, api.ErrDer)
		} else {
			reads(t, b, api.Tlv{Tag: 4, Body: rest[:size]}, rest[size:])
		}
	}
}

// A length of 65535 is well written, but there are never as many bytes.
func TestP101ReadOfTheGreatestLength(t *testing.T) {
	for _, there := range []int{0, 1, 4091, 4092} {
		refused(t, append([]byte{4, 0x82, 0xff, 0xff}, body(there)...), api.ErrDer)
	}
	refused(t, append([]byte{4, 0x82, 0xff, 0xff}, body(65535)...), api.ErrLong)
	refused(t, append([]byte{4, 0x83, 0, 0xff, 0xff}, body(65535)...), api.ErrLong)
}

// Whatever stands behind 80, or behind 83 and above: it is no length.
func TestP101ReadOfLengthsThatAreNone(t *testing.T) {
	for first := 0x80; first <= 0xff; first++ {
		if first == 0x81 || first == 0x82 {
			continue
		}
		for _, behind := range [][]byte{nil, {0}, {0, 0}, {5, 1, 2, 3, 4, 5}, make([]byte, 300), bytes.Repeat([]byte{1}, 300), bytes.Repeat([]byte{0xff}, 300), append(make([]byte, first-0x80), 7)} {
			refused(t, append([]byte{4, byte(first)}, behind...), api.ErrDer)
			refused(t, append([]byte{0x30, byte(first)}, behind...), api.ErrDer)
		}
	}
}

// With each byte that is cut off behind, the piece is none; with bytes behind, they are left.
func TestP101ReadOfTooFewAndTooMany(t *testing.T) {
	for _, size := range []int{0, 1, 2, 127, 128, 255, 256, 300} {
		one := api.Tlv{Tag: 0xa0, Body: body(size)}
		form := formOf(one)
		for end := range form {
			refused(t, form[:end], api.ErrDer)
		}
		for _, left := range [][]byte{{0}, {0x1f}, {0xff}, {4, 0}, {4, 5}, body(100), form} {
			reads(t, slices.Concat(form, left), one, left)
		}
	}
}

func TestP101ReadOf4096BytesAndMore(t *testing.T) {
	one := api.Tlv{Tag: 4, Body: body(4092)}
	if form := formOf(one); len(form) != 4096 {
		t.Fatalf("%d bytes", len(form))
	}
	reads(t, formOf(one), one, nil)
	short := append([]byte{4, 1, 9}, make([]byte, 4093)...)
	reads(t, short, piece(4, "09"), make([]byte, 4093))
	for _, size := range []int{4097, 4098, 8192, 65536, 1 << 20} {
		// What the bytes begin with isn't looked at.
		for _, first := range []string{"04 00", "04 82 0f fd", "04 82 0f fc", "1f 00", "04 81 05", "30 80", "30 82 0f fd", "30 00"} {
			b := make([]byte, size)
			copy(b, unhex(first))
			refused(t, b, api.ErrLong)
		}
	}
}

// Bytes of all lengths below 5, made of those that matter, are read as the judge says.
func TestP101ReadOfAllFewBytes(t *testing.T) {
	signs := []byte{0x00, 0x01, 0x02, 0x03, 0x1f, 0x30, 0x7f, 0x80, 0x81, 0x82, 0x83, 0xff}
	last := [][]byte{{}}
	for range 5 {
		var next [][]byte
		for _, b := range last {
			judged(t, b)
			for _, sign := range signs {
				next = append(next, append(slices.Clone(b), sign))
			}
		}
		last = next
	}
}

// drawn: bytes that are pieces within one another as often as not, drawn with a seed.
func drawn(draw *rand.Rand, depth int) []byte {
	var b []byte
	for range draw.Intn(5) {
		one := api.Tlv{Tag: byte(draw.Intn(256)), Body: body(draw.Intn(300))}
		if depth > 0 && draw.Intn(2) == 0 {
			one = api.Tlv{Tag: der.TSeq, Body: drawn(draw, depth-1)}
		}
		b = append(b, formOf(one)...)
	}
	return b
}

func TestP101Drawn(t *testing.T) {
	draw := rand.New(rand.NewSource(1))
	for range 8000 {
		b := drawn(draw, 2)
		if draw.Intn(2) == 0 {
			b = formOf(api.Tlv{Tag: der.TSeq, Body: b})
		}
		for range draw.Intn(3) {
			if len(b) > 0 {
				b[draw.Intn(min(len(b), 8))] = []byte{0, 1, 0x1f, 0x30, 0x7f, 0x80, 0x81, 0x82, 0x83, 0xff}[draw.Intn(10)]
			}
		}
		if draw.Intn(4) == 0 {
			b = b[:draw.Intn(len(b)+1)]
		}
		judged(t, b)
	}
}

// What the library writes is read, as deep as it goes, and written again as it was.
func TestP101PiecesOfTheLibrary(t *testing.T) {
	type inner struct {
		Name asn1.ObjectIdentifier
		Is   bool
		Text string `asn1:"utf8"`
	}
	type outer struct {
		Number int
		Kids   []inner
		Bits   asn1.BitString
		Long   []byte
		Tagged int `asn1:"explicit,tag:3"`
	}
	kids := []inner{{asn1.ObjectIdentifier{1, 2, 840}, true, "a"}, {asn1.ObjectIdentifier{2, 5, 29, 19}, false, "b"}}
	b, err := asn1.Marshal(outer{-5, kids, asn1.BitString{Bytes: []byte{0xe0}, BitLength: 3}, body(1000), 7})
	if err != nil {
		t.Fatal(err)
	}
	if again := rewritten(t, b); !bytes.Equal(again, b) {
		t.Errorf("%x, not %x", again, b)
	}
	l, e := der.Seq(b)
	if e != api.OK || len(l) != 5 || l[4].Tag != 0xa3 {
		t.Errorf("Seq: %x, error %d", l, e)
	}
}

// rewritten: the pieces of bytes, each read and written again, with those within those that hold pieces.
func rewritten(t *testing.T, b []byte) []byte {
	t.Helper()
	var out []byte
	for one, err := range der.All(b) {
		if err != api.OK {
			t.Fatalf("All(%x): error %d", b, err)
		}
		if one.Tag&0x20 != 0 {
			one.Body = rewritten(t, one.Body)
		}
		form, err := der.Write(one)
		if err != api.OK {
			t.Fatalf("Write(%x): error %d", one, err)
		}
		out = append(out, form...)
	}
	return out
}
