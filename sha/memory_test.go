package sha_test

import (
	"bytes"
	"slices"
	"testing"

	"latchkey/sha"
)

// roomy: the bytes in memory with spare room behind them, and all of that memory.
func roomy(b []byte) ([]byte, []byte) {
	all := append(slices.Clone(b), bytes.Repeat([]byte{0xaa}, 100)...)
	return all[:len(b)], all
}

// spoil: writes over bytes, their spare room included.
func spoil(b []byte) {
	b = b[:cap(b)]
	for i := range b {
		b[i] ^= 0x5c
	}
}

func TestR6BytesStayAsTheyAre(t *testing.T) {
	for _, size := range edges {
		for _, held := range []int{0, 1, 55, 63} {
			b, all := roomy(draw(size))
			before := slices.Clone(all)
			sha.Of(b)
			h := put(draw(held), b)
			h.Sum()
			h.Put(b)
			h.Sum()
			if !bytes.Equal(all, before) {
				t.Errorf("%d bytes behind %d were changed", size, held)
			}
		}
	}
}

func TestR6BytesAreNotKept(t *testing.T) {
	for _, size := range edges {
		for _, cut := range []int{0, size / 3, size / 2, size} {
			b := draw(size)
			h := sha.New()
			for _, part := range [][]byte{b[:cut], b[cut:]} {
				piece, _ := roomy(part)
				h.Put(piece)
				spoil(piece)
			}
			same(t, "bytes that were changed behind a Put", h.Sum(), b)
			h.Put(b)
			same(t, "bytes that were changed behind a Put, and more", h.Sum(), slices.Concat(b, b))
		}
	}
}

func TestR6OneListPutInAgainAndAgain(t *testing.T) {
	list := make([]byte, 37)
	var want []byte
	h := sha.New()
	for i := range 20 {
		copy(list, draw(37+i))
		want = append(want, list...)
		h.Put(list)
		same(t, "one list again and again", h.Sum(), want)
	}
}

func TestR6AnswersAreApart(t *testing.T) {
	h := put(draw(100))
	got := h.Sum()
	spoil(got[:])
	same(t, "Sum behind an answer's change", h.Sum(), draw(100))
	same(t, "Of behind an answer's change", sha.Of(draw(100)), draw(100))
}

// What a Sum answered stays, whatever is put in behind it.
func TestR6AnswersStayAsTheyAre(t *testing.T) {
	b := draw(100)
	h := put(b[:60])
	got := h.Sum()
	h.Put(b[60:])
	h.Sum()
	same(t, "the answer ahead of a Put", got, b[:60])
}
