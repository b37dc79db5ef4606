package rsa_test

import (
	"bytes"
	"math"
	"testing"

	"latchkey/rsa"
)

// pads: Pad gives those bytes.
func pads(t *testing.T, size int, hash [32]byte, want []byte) {
	t.Helper()
	if got := rsa.Pad(size, hash); !bytes.Equal(got, want) {
		t.Errorf("Pad(%d, %x): %x, not %x", size, hash, got, want)
	}
}

func TestP92TheChaptersExample(t *testing.T) {
	b := rsa.Pad(62, [32]byte{9})
	if len(b) != 62 || bytes.Count(b[:11], []byte{0xff}) != 8 {
		t.Errorf("Pad(62): %x", b)
	}
}

func TestP92PadOfSizesThatAreNone(t *testing.T) {
	for _, hash := range append(hashes(2, 3), [32]byte{}) {
		for size := -600; size < 62; size++ {
			pads(t, size, hash, nil)
		}
		for size := 513; size < 1200; size++ {
			pads(t, size, hash, nil)
		}
		for _, size := range []int{math.MinInt, math.MinInt32, 4096, math.MaxInt32, math.MaxInt} {
			pads(t, size, hash, nil)
		}
	}
}

func TestP92PadOfAllSizes(t *testing.T) {
	for size := 62; size <= 512; size++ {
		for _, hash := range hashes(int64(size), 3) {
			pads(t, size, hash, wanted(size, hash))
		}
	}
}

// name: what stands ahead of the hash, byte by byte as the chapter writes it.
func name() []byte {
	return []byte{0x30, 0x31, 0x30, 0x0d, 0x06, 0x09, 0x60, 0x86, 0x48, 0x01, 0x65, 0x03, 0x04, 0x02, 0x01, 0x05, 0x00, 0x04, 0x20}
}

func TestP92EachOfPadsBytes(t *testing.T) {
	var hash [32]byte
	for i := range hash {
		hash[i] = byte(0x80 + i) // each unlike all the others, and unlike what may stand ahead of them
	}
	for _, size := range []int{62, 63, 64, 65, 128, 255, 256, 257, 511, 512} {
		b := rsa.Pad(size, hash)
		if len(b) != size {
			t.Errorf("Pad(%d): %d bytes", size, len(b))
			continue
		}
		for i, got := range b {
			if want := byteAt(i, size, hash); got != want {
				t.Errorf("Pad(%d): byte %d is %x, not %x", size, i, got, want)
			}
		}
	}
}

// byteAt: the byte of a place, counted from both ends.
func byteAt(i, size int, hash [32]byte) byte {
	switch left := size - i; {
	case i == 0:
		return 0
	case i == 1:
		return 1
	case left > 52:
		return 0xff
	case left == 52:
		return 0
	case left > 32:
		return name()[51-left]
	default:
		return hash[32-left]
	}
}

// Each of the hash's bytes, whatever it is, stands in its place and nowhere else.
func TestP92EachOfTheHashsBytes(t *testing.T) {
	for _, size := range []int{62, 63, 256, 512} {
		for place := range 32 {
			for _, b := range []byte{0, 1, 0x7f, 0x80, 0xff} {
				var hash [32]byte
				hash[place] = b
				want := wanted(size, [32]byte{})
				want[size-32+place] = b
				pads(t, size, hash, want)
			}
		}
	}
}
