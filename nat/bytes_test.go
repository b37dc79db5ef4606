package nat_test

import (
	"bytes"
	"math"
	"math/big"
	"math/rand"
	"slices"
	"testing"

	"latchkey/api"
	"latchkey/nat"
)

func TestP13Read(t *testing.T) {
	cases := []struct {
		b    []byte
		want api.Nat
	}{
		{nil, nil},
		{[]byte{0}, nil},
		{make([]byte, 17), nil},
		{[]byte{1, 0}, api.Nat{256}},
		{[]byte{0, 1, 0}, api.Nat{256}},
		{[]byte{1, 2, 3, 4, 5, 6, 7, 8}, api.Nat{0x0102030405060708}},
		{[]byte{9, 1, 2, 3, 4, 5, 6, 7, 8}, api.Nat{0x0102030405060708, 9}},
		{[]byte{0, 0xff, 0xff, 0xff, 0xff, 0xff, 0xff, 0xff, 0xff}, api.Nat{top}},
	}
	for _, c := range cases {
		if got, e := nat.Read(c.b); e != api.OK || !slices.Equal(got, c.want) {
			t.Errorf("Read(%x): %x %d, not %x", c.b, got, e, c.want)
		}
	}
	r := rand.New(rand.NewSource(3))
	for size := range 513 {
		b := make([]byte, size)
		r.Read(b)
		got, e := nat.Read(b)
		if e != api.OK {
			t.Fatalf("Read of %d bytes: error %d", size, e)
		}
		same(t, "Read", got, new(big.Int).SetBytes(b), b)
	}
}

func TestP13ReadTooLong(t *testing.T) {
	if got, e := nat.Read(bytes.Repeat([]byte{0xff}, 512)); e != api.OK || len(got) != api.MaxLimbs {
		t.Errorf("Read of 512 bytes: %d limbs, error %d", len(got), e)
	}
	if got, e := nat.Read(make([]byte, 512)); e != api.OK || len(got) != 0 {
		t.Errorf("Read of 512 bytes 00: %x, error %d", got, e)
	}
	for _, size := range []int{513, 514, 520, 1024, 1 << 20} {
		for _, b := range [][]byte{make([]byte, size), bytes.Repeat([]byte{1}, size)} {
			if got, e := nat.Read(b); e != api.ErrLong || len(got) != 0 {
				t.Errorf("Read of %d bytes: %x, error %d", size, got, e)
			}
		}
	}
}

func TestP13Bytes(t *testing.T) {
	cases := []struct {
		a    api.Nat
		size int
		want []byte
	}{
		{api.Nat{256}, 3, []byte{0, 1, 0}},
		{api.Nat{256}, 2, []byte{1, 0}},
		{api.Nat{256, 0, 0}, 2, []byte{1, 0}},
		{nil, 0, nil},
		{api.Nat{0}, 0, nil},
		{api.Nat{0}, 1, []byte{0}},
		{api.Nat{255}, 1, []byte{255}},
		{api.Nat{0x0102030405060708, 9}, 10, []byte{0, 9, 1, 2, 3, 4, 5, 6, 7, 8}},
	}
	for _, c := range cases {
		if got, ok := nat.Bytes(c.a, c.size); !ok || !bytes.Equal(got, c.want) {
			t.Errorf("Bytes(%x, %d): %x %v, not %x", c.a, c.size, got, ok, c.want)
		}
	}
}

func TestP13BytesNone(t *testing.T) {
	cases := []struct {
		a    api.Nat
		size int
	}{
		{api.Nat{1}, 0},
		{api.Nat{256}, 1},
		{api.Nat{256}, 0},
		{api.Nat{0, 1}, 8},
		{nil, -1},
		{nil, math.MinInt},
		{nil, 513},
		{nil, math.MaxInt},
		{api.Nat{1}, -1},
		{api.Nat{1}, math.MinInt},
		{api.Nat{1}, 513},
		{api.Nat{1}, math.MaxInt32},
		{api.Nat{1}, math.MaxInt},
	}
	for _, c := range cases {
		if got, ok := nat.Bytes(c.a, c.size); ok || len(got) != 0 {
			t.Errorf("Bytes(%x, %d): %x %v", c.a, c.size, got, ok)
		}
	}
}

func TestP13BytesOfAllSizes(t *testing.T) {
	for size := range 513 {
		least := nat.Shift(api.Nat{1}, -8*size) // has one byte too many
		if got, ok := nat.Bytes(least, size); ok || len(got) != 0 {
			t.Fatalf("Bytes of 2^%d in %d bytes: %x", 8*size, size, got)
		}
		greatest, _ := nat.Sub(least, api.Nat{1})
		got, ok := nat.Bytes(greatest, size)
		if !ok || !bytes.Equal(got, bytes.Repeat([]byte{0xff}, size)) {
			t.Fatalf("Bytes of 2^%d - 1 in %d bytes: %x %v", 8*size, size, got, ok)
		}
	}
	singles(func(a api.Nat) {
		want := value(a).Bytes()
		got, ok := nat.Bytes(a, len(want))
		if ok != (len(want) <= 512) {
			t.Fatalf("Bytes of %d bytes: %v", len(want), ok)
		}
		if ok && !bytes.Equal(got, want) {
			t.Fatalf("Bytes(%x): %x, not %x", a, got, want)
		}
		got, ok = nat.Bytes(a, 512)
		if ok != (len(want) <= 512) {
			t.Fatalf("Bytes of %d bytes in 512: %v", len(want), ok)
		}
		if ok && !bytes.Equal(got, value(a).FillBytes(make([]byte, 512))) {
			t.Fatalf("Bytes(%x, 512): %x", a, got)
		}
	})
}

func TestP13ReadAndBytesGoTogether(t *testing.T) {
	r := rand.New(rand.NewSource(4))
	for size := range 513 {
		b := make([]byte, size)
		r.Read(b)
		a, _ := nat.Read(b)
		if got, ok := nat.Bytes(a, size); !ok || !bytes.Equal(got, b) {
			t.Fatalf("Bytes of what Read answered: %x %v, not %x", got, ok, b)
		}
	}
}
