package sha_test

import (
	"crypto/sha256"
	"math/rand"
	"testing"

	"latchkey/sha"
)

// edges: lengths at which a block is full, or the length no longer fits behind the bytes.
var edges = []int{0, 1, 2, 54, 55, 56, 57, 62, 63, 64, 65, 118, 119, 120, 121, 127, 128, 129, 183, 184, 191, 192, 193}

// draw: so many bytes, drawn with a seed so that each run is the same.
func draw(size int) []byte {
	b := make([]byte, size)
	rand.New(rand.NewSource(int64(size))).Read(b)
	return b
}

// same: the hash is the one that the library answers for those bytes.
func same(t *testing.T, what string, got [32]byte, b []byte) {
	t.Helper()
	if want := sha256.Sum256(b); got != want {
		t.Fatalf("%s, %d bytes: %x, not %x", what, len(b), got, want)
	}
}

// put: a new Hash into which the pieces were put, one by one.
func put(pieces ...[]byte) *sha.Hash {
	h := sha.New()
	for _, piece := range pieces {
		h.Put(piece)
	}
	return h
}

// parted: the bytes in pieces of so many, the last one of what is left.
func parted(b []byte, size int) [][]byte {
	var pieces [][]byte
	for len(b) > size {
		pieces = append(pieces, b[:size])
		b = b[size:]
	}
	return append(pieces, b)
}

// partings: calls try with every way of parting the bytes into pieces of at least one.
func partings(b []byte, try func(pieces [][]byte)) {
	for cuts := range 1 << max(len(b)-1, 0) {
		var pieces [][]byte
		from := 0
		for at := 1; at < len(b); at++ {
			if cuts>>(at-1)&1 == 1 {
				pieces = append(pieces, b[from:at])
				from = at
			}
		}
		try(append(pieces, b[from:]))
	}
}

// withEmpty: the pieces with empty ones ahead of, between and behind them.
func withEmpty(pieces [][]byte) [][]byte {
	out := [][]byte{nil}
	for _, piece := range pieces {
		out = append(out, piece, []byte{}, nil)
	}
	return out
}
