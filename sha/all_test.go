package sha_test

import (
	"bytes"
	"slices"
	"testing"

	"latchkey/sha"
)

func TestP31AllOfNone(t *testing.T) {
	same(t, "All of no pieces", sha.All(slices.Values([][]byte{})), nil)
	same(t, "All of empty pieces", sha.All(slices.Values([][]byte{nil, {}, nil})), nil)
	same(t, "All of nil", sha.All(nil), nil)
}

func TestP31AllOfOne(t *testing.T) {
	for _, size := range edges {
		same(t, "All of one piece", sha.All(slices.Values([][]byte{draw(size)})), draw(size))
	}
}

func TestP31AllOfMany(t *testing.T) {
	for size := range 10 {
		b := draw(size)
		partings(b, func(pieces [][]byte) {
			same(t, "All", sha.All(slices.Values(pieces)), b)
			same(t, "All with empty pieces", sha.All(slices.Values(withEmpty(pieces))), b)
		})
	}
	b := draw(700)
	for size := 1; size <= len(b); size++ {
		same(t, "All of equal pieces", sha.All(slices.Values(parted(b, size))), b)
	}
}

func TestP31AllIsInOrder(t *testing.T) {
	ab := sha.All(slices.Values([][]byte{[]byte("a"), []byte("b")}))
	ba := sha.All(slices.Values([][]byte{[]byte("b"), []byte("a")}))
	same(t, "All of a, b", ab, []byte("ab"))
	same(t, "All of b, a", ba, []byte("ba"))
}

// The pieces are asked for once, and each of them is taken.
func TestP31AllGoesOverOnce(t *testing.T) {
	for count := range 5 {
		begun, taken, refused := 0, 0, 0
		var want []byte
		got := sha.All(func(yield func([]byte) bool) {
			begun++
			for i := range count {
				piece := draw(40 + i)
				want = append(want, piece...)
				if !yield(piece) {
					refused++
					return
				}
				taken++
			}
		})
		if begun != 1 || taken != count || refused != 0 {
			t.Errorf("All of %d pieces: begun %d times, %d taken, %d refused", count, begun, taken, refused)
		}
		same(t, "All", got, want)
	}
}

// One list is written anew for each piece.
func TestR6AllKeepsNoPiece(t *testing.T) {
	for _, size := range edges {
		b := draw(5 * size)
		got := sha.All(func(yield func([]byte) bool) {
			piece := make([]byte, size)
			for i := range 5 {
				copy(piece, b[i*size:])
				if !yield(piece) {
					return
				}
			}
			for i := range piece {
				piece[i] = 0xee
			}
		})
		same(t, "All of one list five times", got, b)
	}
}

func TestR6AllChangesNoPiece(t *testing.T) {
	for _, size := range edges {
		first, firstAll := roomy(draw(size))
		second, secondAll := roomy(draw(size + 7))
		before := slices.Concat(firstAll, secondAll)
		sha.All(slices.Values([][]byte{first, second, first}))
		if !bytes.Equal(slices.Concat(firstAll, secondAll), before) {
			t.Errorf("All of pieces of %d bytes changed one of them", size)
		}
	}
}

// Where going over the pieces panics, All does not (P1), and answers no hash of some of them.
func TestP1AllOfPiecesThatPanic(t *testing.T) {
	for count := range 3 {
		got := sha.All(func(yield func([]byte) bool) {
			for range count {
				yield(draw(70))
			}
			panic("no more pieces")
		})
		if got != [32]byte{} {
			t.Errorf("All of pieces that panic behind %d: %x", count, got)
		}
	}
	same(t, "All behind one that panicked", sha.All(slices.Values([][]byte{draw(70)})), draw(70))
}
