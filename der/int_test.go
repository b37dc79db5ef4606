package der_test

import (
	"bytes"
	"math/big"
	"math/rand"
	"slices"
	"testing"

	"latchkey/api"
	"latchkey/der"
)

// isInt: the body's number is that one.
func isInt(t *testing.T, b []byte, want *big.Int) {
	t.Helper()
	got, err := der.Int(api.Tlv{Tag: der.TInt, Body: b})
	if n := len(got); n > 0 && got[n-1] == 0 {
		t.Fatalf("Int(%.60x): %x has a limb of 0 above the greatest one", b, got)
	}
	if err != api.OK || value(got).Cmp(want) != 0 {
		t.Fatalf("Int(%.60x): %x, error %d; not %x, no error", b, got, err, want)
	}
}

// noInt: Int answers that error alone.
func noInt(t *testing.T, one api.Tlv, want api.Errno) {
	t.Helper()
	if got, err := der.Int(one); err != want || len(got) != 0 {
		t.Fatalf("Int(%.60x): %x, error %d; not error %d", one, got, err, want)
	}
}

func TestP102Int(t *testing.T) {
	isInt(t, unhex("05"), big.NewInt(5))
	isInt(t, unhex("00"), big.NewInt(0))
	isInt(t, unhex("7f"), big.NewInt(0x7f))
	isInt(t, unhex("00 80"), big.NewInt(0x80))
	isInt(t, unhex("00 ff"), big.NewInt(0xff))
	isInt(t, unhex("01 00"), big.NewInt(0x100))
	isInt(t, unhex("00 80 00"), big.NewInt(0x8000))
	for _, s := range []string{"", "00 05", "00 7f", "00 00", "00 00 80", "00 00 00", "80", "ff", "80 00", "ff 00", "ff 7f", "00 7f ff"} {
		noInt(t, piece(2, s), api.ErrDer)
	}
	noInt(t, api.Tlv{Tag: 2}, api.ErrDer)
}

// All bodies of one, two and three bytes: those that are as short as may be, and not below 0.
func TestP102IntOfAllFewBytes(t *testing.T) {
	for size := 1; size <= 3; size++ {
		step := []int{0, 1, 1, 13}[size]
		for n := 0; n < 1<<(8*size); n += step {
			b := big.NewInt(int64(n)).FillBytes(make([]byte, size))
			// The least and the greatest number of as many bytes, as the two's complement has them.
			least := int64(0)
			if size > 1 {
				least = 1 << (8*size - 9)
			}
			if most := int64(1)<<(8*size-1) - 1; int64(n) >= least && int64(n) <= most {
				isInt(t, b, big.NewInt(int64(n)))
			} else {
				noInt(t, api.Tlv{Tag: 2, Body: b}, api.ErrDer)
			}
		}
	}
}

func TestP102IntOfAnotherTag(t *testing.T) {
	for tag := range 256 {
		if tag != 2 {
			for _, s := range []string{"", "05", "80", "00 05"} {
				noInt(t, piece(byte(tag), s), api.ErrDer)
			}
			noInt(t, api.Tlv{Tag: byte(tag), Body: bytes.Repeat([]byte{1}, 513)}, api.ErrDer)
		}
	}
}

func TestP102IntOfManyBytes(t *testing.T) {
	draw := rand.New(rand.NewSource(2))
	for size := 1; size <= 520; size++ {
		b := make([]byte, size)
		draw.Read(b)
		for _, first := range []byte{0x01, 0x7f, 0x80, 0xff} {
			b[0] = first
			ahead := append([]byte{0}, b...)
			if first < 0x80 {
				noInt(t, api.Tlv{Tag: 2, Body: ahead}, api.ErrDer)
				intOf(t, b, b)
			} else {
				noInt(t, api.Tlv{Tag: 2, Body: b}, api.ErrDer)
				intOf(t, ahead, b)
			}
		}
	}
}

// intOf: the body's number has those digits, if there are at most 512.
func intOf(t *testing.T, b, digits []byte) {
	t.Helper()
	if len(digits) > 512 {
		noInt(t, api.Tlv{Tag: 2, Body: b}, api.ErrLong)
		return
	}
	isInt(t, b, new(big.Int).SetBytes(digits))
}

// At 512 and 513 bytes, with and without a 00 ahead; ErrDer is told ahead of ErrLong.
func TestP102IntAtItsEnd(t *testing.T) {
	low, high := bytes.Repeat([]byte{0x7f}, 512), bytes.Repeat([]byte{0xff}, 512)
	isInt(t, low, new(big.Int).SetBytes(low))
	isInt(t, append([]byte{0}, high...), new(big.Int).SetBytes(high))
	got, _ := der.Int(api.Tlv{Tag: 2, Body: append([]byte{0}, high...)})
	if !slices.Equal(got, slices.Repeat(api.Nat{1<<64 - 1}, api.MaxLimbs)) {
		t.Errorf("Int of 512 bytes ff: %x", got)
	}
	noInt(t, api.Tlv{Tag: 2, Body: high}, api.ErrDer)
	noInt(t, api.Tlv{Tag: 2, Body: append([]byte{0}, low...)}, api.ErrDer)
	noInt(t, api.Tlv{Tag: 2, Body: append([]byte{0x7f}, low...)}, api.ErrLong)
	noInt(t, api.Tlv{Tag: 2, Body: append([]byte{1}, make([]byte, 512)...)}, api.ErrLong)
	noInt(t, api.Tlv{Tag: 2, Body: append([]byte{0, 0x80}, high...)}, api.ErrLong)
	for _, size := range []int{513, 514, 600, 4092, 1 << 20} {
		noInt(t, api.Tlv{Tag: 2, Body: make([]byte, size)}, api.ErrDer)
		noInt(t, api.Tlv{Tag: 2, Body: bytes.Repeat([]byte{0x80}, size)}, api.ErrDer)
		noInt(t, api.Tlv{Tag: 2, Body: append([]byte{0}, bytes.Repeat([]byte{0x7f}, size)...)}, api.ErrDer)
		noInt(t, api.Tlv{Tag: 2, Body: append([]byte{0}, bytes.Repeat([]byte{0x80}, size)...)}, api.ErrLong)
		noInt(t, api.Tlv{Tag: 2, Body: bytes.Repeat([]byte{0x01}, size)}, api.ErrLong)
	}
}
