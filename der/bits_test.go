package der_test

import (
	"bytes"
	"encoding/asn1"
	"slices"
	"testing"

	"latchkey/api"
	"latchkey/der"
)

// isBits: the body's bytes are those, and so many bits of the last one are none.
func isBits(t *testing.T, b []byte, want []byte, spare int) {
	t.Helper()
	if got, left, err := der.Bits(api.Tlv{Tag: der.TBits, Body: b}); err != api.OK || !bytes.Equal(got, want) || left != spare {
		t.Fatalf("Bits(%.60x): %.60x, %d, error %d; not %.60x, %d, no error", b, got, left, err, want, spare)
	}
}

// noBits: Bits answers ErrDer alone.
func noBits(t *testing.T, one api.Tlv) {
	t.Helper()
	if got, left, err := der.Bits(one); err != api.ErrDer || len(got) != 0 || left != 0 {
		t.Fatalf("Bits(%.60x): %.60x, %d, error %d; not error %d", one, got, left, err, api.ErrDer)
	}
}

func TestP103Bits(t *testing.T) {
	isBits(t, unhex("00"), nil, 0)
	isBits(t, unhex("00 ff"), []byte{0xff}, 0)
	isBits(t, unhex("00 00"), []byte{0}, 0)
	isBits(t, unhex("02 04"), []byte{4}, 2)
	isBits(t, unhex("07 80"), []byte{0x80}, 7)
	isBits(t, unhex("07 ff 80"), []byte{0xff, 0x80}, 7)
	isBits(t, append([]byte{0}, body(4000)...), body(4000), 0)
	noBits(t, api.Tlv{Tag: 3})
	noBits(t, piece(3, ""))
	noBits(t, piece(3, "02 06"))
	noBits(t, piece(3, "08 00"))
}

// A first byte alone is well just if it is 0.
func TestP103BitsOfAFirstByteAlone(t *testing.T) {
	isBits(t, []byte{0}, []byte{}, 0)
	for first := 1; first < 256; first++ {
		noBits(t, api.Tlv{Tag: 3, Body: []byte{byte(first)}})
	}
}

// Each first byte with each last one: the bits that are none are 0; those of the bytes ahead don't matter.
func TestP103BitsOfEachLastByte(t *testing.T) {
	for first := range 256 {
		for last := range 256 {
			for _, ahead := range [][]byte{nil, {0}, {0xff}, {0x55, 0xff, 0x01}} {
				octets := append(slices.Clone(ahead), byte(last))
				b := append([]byte{byte(first)}, octets...)
				if first <= 7 && last>>first<<first == last {
					isBits(t, b, octets, first)
				} else {
					noBits(t, api.Tlv{Tag: 3, Body: b})
				}
			}
		}
	}
}

func TestP103BitsOfAnotherTag(t *testing.T) {
	for tag := range 256 {
		if tag != 3 {
			for _, s := range []string{"", "00", "00 ff", "02 04"} {
				noBits(t, piece(byte(tag), s))
			}
		}
	}
}

// What the library writes is read.
func TestP103BitsOfTheLibrary(t *testing.T) {
	for count := range 40 {
		octets := make([]byte, (count+7)/8)
		for at := range count {
			octets[at/8] |= 0x80 >> (at % 8)
		}
		b, err := asn1.Marshal(asn1.BitString{Bytes: octets, BitLength: count})
		if err != nil {
			t.Fatal(err)
		}
		one, _, _ := der.Read(b)
		isBits(t, one.Body, octets, 8*len(octets)-count)
	}
}

func TestP103Bool(t *testing.T) {
	for tag := range 256 {
		for value := range 256 {
			got, err := der.Bool(api.Tlv{Tag: byte(tag), Body: []byte{byte(value)}})
			want, wantErr := tag == 1 && value == 0xff, api.OK
			if tag != 1 || value != 0 && value != 0xff {
				wantErr = api.ErrDer
			}
			if got != want || err != wantErr {
				t.Errorf("Bool(%x %x): %v, error %d; not %v, error %d", tag, value, got, err, want, wantErr)
			}
		}
	}
	for _, s := range []string{"", "00 00", "ff ff", "ff 00", "00 ff", "ff ff ff"} {
		if got, err := der.Bool(piece(1, s)); got || err != api.ErrDer {
			t.Errorf("Bool(%s): %v, error %d", s, got, err)
		}
	}
	if got, err := der.Bool(api.Tlv{Tag: 1}); got || err != api.ErrDer {
		t.Errorf("Bool of no body: %v, error %d", got, err)
	}
}
