package b64_test

import (
	"bytes"
	"testing"

	"latchkey/b64"
)

func TestP41EncodeExamples(t *testing.T) {
	for s, b := range map[string][]byte{
		"":         {},
		"AA":       {0},
		"AAA":      {0, 0},
		"AAAA":     {0, 0, 0},
		"-_8":      {0xfb, 0xff},
		"__8":      {0xff, 0xff},
		"____":     {0xff, 0xff, 0xff},
		"_w":       {0xff},
		"gA":       {0x80},
		"AQ":       {1},
		"AAE":      {0, 1},
		"Zm9vYmFy": []byte("foobar"),
	} {
		if got := b64.Encode(b); got != s {
			t.Errorf("Encode(%x): %q, not %q", b, got, s)
		}
		decodes(t, s, b)
	}
}

func TestP41EncodeOfNoBytes(t *testing.T) {
	for _, b := range [][]byte{nil, {}, draw(5)[:0]} {
		if got := b64.Encode(b); got != "" {
			t.Errorf("Encode of no bytes: %q", got)
		}
	}
}

// Each sign stands for its number, in each of the four places.
func TestP41EncodeOfEverySign(t *testing.T) {
	for place := range 4 {
		for value := range 64 {
			bits := value << (18 - 6*place)
			want := []byte("AAAA")
			want[place] = signs[value]
			b := []byte{byte(bits >> 16), byte(bits >> 8), byte(bits)}
			if got := b64.Encode(b); got != string(want) {
				t.Errorf("Encode(%x): %q, not %q", b, got, want)
			}
		}
	}
}

func TestP41ThereAndBackOfFewBytes(t *testing.T) {
	for one := range 256 {
		thereAndBack(t, []byte{byte(one)})
		for two := range 256 {
			thereAndBack(t, []byte{byte(one), byte(two)})
			thereAndBack(t, []byte{byte(one), byte(two), 0})
			thereAndBack(t, []byte{0xff, byte(one), byte(two)})
			thereAndBack(t, []byte{byte(one), byte(one + two), byte(two)})
		}
	}
}

func TestP41ThereAndBackOfEveryLength(t *testing.T) {
	for size := range 300 {
		thereAndBack(t, draw(size))
		thereAndBack(t, make([]byte, size))
		thereAndBack(t, bytes.Repeat([]byte{0xff}, size))
	}
}

// The text of 12288 bytes is the longest that is read; those of more bytes are written all the same.
func TestP41EncodeOfManyBytes(t *testing.T) {
	for _, size := range []int{1000, 12285, 12286, 12287, 12288, 12289, 12290, 12291, 16384, 16385, 100000} {
		thereAndBack(t, draw(size))
	}
}
