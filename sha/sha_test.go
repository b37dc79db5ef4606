package sha_test

import (
	"bytes"
	"encoding/hex"
	"testing"

	"latchkey/api"
	"latchkey/sha"
)

func TestP31Examples(t *testing.T) {
	cases := []struct{ text, want string }{
		{"", "e3b0c44298fc1c14"},
		{"abc", "ba7816bf8f01cfea"},
	}
	for _, c := range cases {
		of, all := sha.Of([]byte(c.text)), put([]byte(c.text)).Sum()
		if got := hex.EncodeToString(of[:8]); got != c.want {
			t.Errorf("Of(%q): %s, not %s", c.text, got, c.want)
		}
		if got := hex.EncodeToString(all[:8]); got != c.want {
			t.Errorf("Sum of %q: %s, not %s", c.text, got, c.want)
		}
	}
}

// Hashes that FIPS 180-4's examples name, so that not all rests on the library's.
func TestP31KnownHashes(t *testing.T) {
	cases := []struct{ text, want string }{
		{"", "e3b0c44298fc1c149afbf4c8996fb92427ae41e4649b934ca495991b7852b855"},
		{"abc", "ba7816bf8f01cfea414140de5dae2223b00361a396177a9cb410ff61f20015ad"},
		{"abcdbcdecdefdefgefghfghighijhijkijkljklmklmnlmnomnopnopq", "248d6a61d20638b8e5c026930c3e6039a33ce45964ff2167f6ecedd419db06c1"},
		{"abcdefghbcdefghicdefghijdefghijkefghijklfghijklmghijklmnhijklmnoijklmnopjklmnopqklmnopqrlmnopqrsmnopqrstnopqrstu", "cf5b16a778af8380036ce59e7b0492370b249b11e8f07a51afac45037afee9d1"},
		{string(bytes.Repeat([]byte("a"), 1000000)), "cdc76e5c9914fb9281a1c7e284d73e67f1809a48a497200e046d39ccc7112cd0"},
	}
	for _, c := range cases {
		got := sha.Of([]byte(c.text))
		if hex.EncodeToString(got[:]) != c.want {
			t.Errorf("Of %d bytes: %x, not %s", len(c.text), got, c.want)
		}
	}
}

func TestP31OfEveryLength(t *testing.T) {
	for size := range 520 {
		same(t, "Of drawn bytes", sha.Of(draw(size)), draw(size))
		same(t, "Of bytes 0", sha.Of(make([]byte, size)), make([]byte, size))
		full := bytes.Repeat([]byte{0xff}, size)
		same(t, "Of bytes 255", sha.Of(full), full)
	}
}

func TestP31OfManyBlocks(t *testing.T) {
	for _, size := range []int{1 << 12, 1<<16 - 1, 1 << 16, 1<<16 + 55, 1<<16 + 56, api.MaxHashed - 9, api.MaxHashed - 1, api.MaxHashed, api.MaxHashed + 1} {
		same(t, "Of", sha.Of(draw(size)), draw(size))
	}
}

func TestR5NilAndEmptyBytesMeanTheSame(t *testing.T) {
	same(t, "Of(nil)", sha.Of(nil), nil)
	same(t, "Of empty bytes", sha.Of([]byte{}), nil)
	same(t, "New", sha.New().Sum(), nil)
	same(t, "Put(nil)", put(nil).Sum(), nil)
	same(t, "Put of empty bytes", put([]byte{}, nil, []byte{}).Sum(), nil)
}

func TestP31EveryPartingOfFewBytes(t *testing.T) {
	for size := range 12 {
		b := draw(size)
		partings(b, func(pieces [][]byte) {
			same(t, "Put", put(pieces...).Sum(), b)
			same(t, "Put with empty pieces", put(withEmpty(pieces)...).Sum(), b)
		})
	}
}

// Parted in all ways, with the cuts about a block's end.
func TestP31EveryPartingAboutBlocks(t *testing.T) {
	for _, ahead := range []int{50, 59, 114, 123} {
		b := draw(ahead + 10)
		partings(b[ahead:], func(pieces [][]byte) {
			h := put(b[:ahead])
			for _, piece := range pieces {
				h.Put(piece)
			}
			same(t, "Put", h.Sum(), b)
		})
	}
}

func TestP31EveryPartingIntoTwo(t *testing.T) {
	for _, size := range edges {
		b := draw(size)
		for cut := range size + 1 {
			same(t, "Put of two", put(b[:cut], b[cut:]).Sum(), b)
			same(t, "Put of two with empty pieces", put(nil, b[:cut], []byte{}, b[cut:], nil).Sum(), b)
		}
	}
}

func TestP31EveryPartingIntoThree(t *testing.T) {
	b := draw(130)
	for second := range len(b) + 1 {
		for first := range second + 1 {
			same(t, "Put of three", put(b[:first], b[first:second], b[second:]).Sum(), b)
		}
	}
}

func TestP31EqualPieces(t *testing.T) {
	b := draw(1000)
	for size := 1; size <= len(b); size++ {
		same(t, "Put of equal pieces", put(parted(b, size)...).Sum(), b)
	}
}

func TestP31SumBehindEachByte(t *testing.T) {
	b := draw(260)
	h := sha.New()
	same(t, "Sum ahead of the first byte", h.Sum(), nil)
	for i := range b {
		h.Put(b[i : i+1])
		same(t, "Sum behind a byte", h.Sum(), b[:i+1])
		same(t, "Sum behind a Sum", h.Sum(), b[:i+1])
	}
}

func TestP31SumBetweenPuts(t *testing.T) {
	for _, size := range edges {
		b := draw(size)
		for cut := range size + 1 {
			h := put(b[:cut])
			same(t, "Sum between", h.Sum(), b[:cut])
			same(t, "Sum between, again", h.Sum(), b[:cut])
			h.Put(nil)
			same(t, "Sum behind no bytes", h.Sum(), b[:cut])
			h.Put(b[cut:])
			same(t, "Sum at the end", h.Sum(), b)
		}
	}
}

func TestR8HashesKeepApart(t *testing.T) {
	for _, size := range edges {
		first, second := draw(size), draw(size+70)
		a, b := sha.New(), sha.New()
		a.Put(first)
		b.Put(second)
		same(t, "the first of two", a.Sum(), first)
		b.Put(first)
		a.Put(second)
		same(t, "the second of two", b.Sum(), append(second[:len(second):len(second)], first...))
		same(t, "the first of two, again", a.Sum(), append(first[:len(first):len(first)], second...))
	}
}

func TestR7NilHash(t *testing.T) {
	var h *sha.Hash
	if got := h.Sum(); got != [32]byte{} {
		t.Errorf("Sum of a nil Hash: %x", got)
	}
	for _, size := range edges {
		h.Put(draw(size))
		if got := h.Sum(); got != [32]byte{} {
			t.Errorf("Sum of a nil Hash behind a Put of %d bytes: %x", size, got)
		}
	}
	h.Put(nil)
	if h != nil {
		t.Error("a nil Hash is no longer nil")
	}
}

func TestP31NewIsNotNil(t *testing.T) {
	if sha.New() == nil {
		t.Fatal("New: nil")
	}
}

// A Hash that no one made by New doesn't panic, and holds nothing (P1).
func TestP1HashWithoutNew(t *testing.T) {
	var empty sha.Hash
	same(t, "a Hash without New", empty.Sum(), nil)
	for _, size := range edges {
		var h sha.Hash
		h.Put(draw(size))
		same(t, "a Hash without New", h.Sum(), draw(size))
	}
}
