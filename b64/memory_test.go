package b64_test

import (
	"bytes"
	"slices"
	"strings"
	"testing"

	"latchkey/b64"
)

// roomy: the bytes in memory with spare room behind them, and all of that memory.
func roomy(b []byte) ([]byte, []byte) {
	all := append(slices.Clone(b), bytes.Repeat([]byte{0xaa}, 100)...)
	return all[:len(b)], all
}

// spoil: writes over bytes, their spare room included.
func spoil(b []byte) {
	b = b[:cap(b)]
	for i := range b {
		b[i] ^= 0x5c
	}
}

func TestR6BytesStayAsTheyAre(t *testing.T) {
	for size := range 100 {
		b, all := roomy(draw(size))
		before := slices.Clone(all)
		b64.Encode(b)
		if !bytes.Equal(all, before) {
			t.Errorf("%d bytes were changed", size)
		}
	}
}

// Spare room behind the bytes is no part of them, and a text stays when they change.
func TestR6BytesAreNotKept(t *testing.T) {
	for size := range 100 {
		b, all := roomy(draw(size))
		s := b64.Encode(b)
		want := library.EncodeToString(b)
		spoil(all)
		if s != want {
			t.Errorf("%d bytes: %q, not %q", size, s, want)
		}
	}
}

func TestR6TextsStayAsTheyAre(t *testing.T) {
	for size := range 100 {
		s := library.EncodeToString(draw(size))
		before := strings.Clone(s)
		b, _ := b64.Decode(s)
		spoil(b)
		if s != before {
			t.Errorf("the text of %d bytes was changed", size)
		}
	}
}

func TestR6AnswersAreApart(t *testing.T) {
	for size := range 100 {
		s := library.EncodeToString(draw(size))
		first, _ := b64.Decode(s)
		second, _ := b64.Decode(s)
		spoil(first)
		if !bytes.Equal(second, draw(size)) {
			t.Errorf("two answers of %d bytes share memory", size)
		}
		decodes(t, s, draw(size))
	}
}

func TestR8OneArgumentOneAnswer(t *testing.T) {
	s := drawText(64)
	want, _ := expected(s)
	for _, between := range []string{"", "AA", "+", "A", "AB", strings.Repeat("A", 20000)} {
		b64.Decode(between)
		b64.Encode([]byte(between))
		decodes(t, s, want)
	}
}
