package der_test

import (
	"bytes"
	"encoding/asn1"
	"testing"

	"latchkey/api"
	"latchkey/der"
)

// writes: the piece is written as those bytes.
func writes(t *testing.T, one api.Tlv, want []byte) {
	t.Helper()
	if got, err := der.Write(one); err != api.OK || !bytes.Equal(got, want) {
		t.Fatalf("Write(%.60x): %.60x, error %d; not %.60x, no error", one, got, err, want)
	}
}

// unwritten: Write answers that error alone.
func unwritten(t *testing.T, one api.Tlv, want api.Errno) {
	t.Helper()
	if got, err := der.Write(one); err != want || len(got) != 0 {
		t.Fatalf("Write(%.60x): %.60x, error %d; not error %d", one, got, err, want)
	}
}

func TestP101Write(t *testing.T) {
	writes(t, piece(0x30, "02 01 05"), unhex("30 03 02 01 05"))
	writes(t, piece(0x02, "05"), unhex("02 01 05"))
	writes(t, piece(0x05, ""), unhex("05 00"))
	writes(t, api.Tlv{Tag: 5, Body: []byte{}}, unhex("05 00"))
	writes(t, api.Tlv{}, unhex("00 00"))
	writes(t, api.Tlv{Tag: 4, Body: body(127)}, append(unhex("04 7f"), body(127)...))
	writes(t, api.Tlv{Tag: 4, Body: body(128)}, append(unhex("04 81 80"), body(128)...))
	writes(t, api.Tlv{Tag: 4, Body: body(255)}, append(unhex("04 81 ff"), body(255)...))
	writes(t, api.Tlv{Tag: 4, Body: body(256)}, append(unhex("04 82 01 00"), body(256)...))
	writes(t, api.Tlv{Tag: 4, Body: body(4092)}, append(unhex("04 82 0f fc"), body(4092)...))
}

// Each size is written as the library writes it, and read again.
func TestP101WriteOfAllSizes(t *testing.T) {
	for size := range 4093 {
		one := api.Tlv{Tag: der.TOct, Body: body(size)}
		form, err := asn1.Marshal(one.Body)
		if err != nil {
			t.Fatal(err)
		}
		writes(t, one, form)
		reads(t, form, one, nil)
	}
}

func TestP101WriteOfEachTag(t *testing.T) {
	for tag := range 256 {
		for _, size := range []int{0, 1, 128, 256, 4092, 4093, 5000} {
			one := api.Tlv{Tag: byte(tag), Body: body(size)}
			switch {
			case tag%32 == 31:
				unwritten(t, one, api.ErrDer)
			case size > 4092:
				unwritten(t, one, api.ErrLong)
			default:
				writes(t, one, formOf(one))
				reads(t, formOf(one), one, nil)
			}
		}
	}
}

func TestP101WriteOfTooMany(t *testing.T) {
	for _, size := range []int{4093, 4094, 4095, 4096, 4097, 65535, 65536, 65537, 1 << 16 * 2, 1 << 24, 1<<24 + 1} {
		unwritten(t, api.Tlv{Tag: 4, Body: make([]byte, size)}, api.ErrLong)
		unwritten(t, api.Tlv{Tag: 0x9f, Body: make([]byte, size)}, api.ErrDer)
	}
}
