package der_test

import (
	"bytes"
	"encoding/asn1"
	"math/big"
	"math/rand"
	"slices"
	"testing"

	"latchkey/api"
	"latchkey/der"
)

// isOid: the body's numbers are those.
func isOid(t *testing.T, b []byte, want ...uint64) {
	t.Helper()
	if got, err := der.Oid(api.Tlv{Tag: der.TOid, Body: b}); err != api.OK || !slices.Equal(got, want) {
		t.Fatalf("Oid(%.60x): %d, error %d; not %d, no error", b, got, err, want)
	}
}

// noOid: Oid answers that error alone.
func noOid(t *testing.T, one api.Tlv, want api.Errno) {
	t.Helper()
	if got, err := der.Oid(one); err != want || len(got) != 0 {
		t.Fatalf("Oid(%.60x): %d, error %d; not error %d", one, got, err, want)
	}
}

// rowOf: a number as a row, as short as may be.
func rowOf(n uint64) []byte {
	b := []byte{byte(n % 128)}
	for n /= 128; n > 0; n /= 128 {
		b = append([]byte{byte(0x80 + n%128)}, b...)
	}
	return b
}

// rowsOf: the rows of a body whose last byte is below 80.
func rowsOf(b []byte) [][]byte {
	var rows [][]byte
	for len(b) > 0 {
		end := 1 + slices.IndexFunc(b, func(digit byte) bool { return digit < 0x80 })
		rows, b = append(rows, b[:end]), b[end:]
	}
	return rows
}

// judgeOid: what Oid should answer of a body: its rows, cut behind each byte below 80, as numbers of the library's.
func judgeOid(b []byte) ([]uint64, api.Errno) {
	var out []uint64
	if len(b) == 0 || b[len(b)-1] >= 0x80 {
		return nil, api.ErrDer
	}
	for _, row := range rowsOf(b) {
		n := new(big.Int)
		for _, digit := range row {
			n.Mul(n, big.NewInt(128)).Add(n, big.NewInt(int64(digit%128)))
		}
		if row[0] == 0x80 || n.BitLen() > 63 {
			return nil, api.ErrDer
		}
		out = append(out, n.Uint64())
	}
	switch first := out[0]; {
	case first < 40:
		out = append([]uint64{0, first}, out[1:]...)
	case first < 80:
		out = append([]uint64{1, first - 40}, out[1:]...)
	default:
		out = append([]uint64{2, first - 80}, out[1:]...)
	}
	if len(out) > 16 {
		return nil, api.ErrMany
	}
	return out, api.OK
}

// oidJudged: the body is read, or refused, as the judge says.
func oidJudged(t *testing.T, b []byte) {
	t.Helper()
	want, err := judgeOid(b)
	if err != api.OK {
		noOid(t, api.Tlv{Tag: der.TOid, Body: b}, err)
		return
	}
	isOid(t, b, want...)
}

func TestP102Oid(t *testing.T) {
	isOid(t, unhex("2a 86 48"), 1, 2, 840)
	isOid(t, unhex("2a 86 48 ce 3d 04 03 02"), 1, 2, 840, 10045, 4, 3, 2)
	isOid(t, unhex("2a 86 48 86 f7 0d 01 01 0b"), 1, 2, 840, 113549, 1, 1, 11)
	isOid(t, unhex("2b 06 01 04 01 82 e5 1c 01 01 04"), 1, 3, 6, 1, 4, 1, 45724, 1, 1, 4)
	isOid(t, unhex("55 1d 13"), 2, 5, 29, 19)
	isOid(t, unhex("00"), 0, 0)
	noOid(t, piece(6, ""), api.ErrDer)
	noOid(t, api.Tlv{Tag: 6}, api.ErrDer)
}

// The first row holds two numbers, of which the first is 2 at most.
func TestP102OidOfFirstRows(t *testing.T) {
	cases := []struct{ row, first, second uint64 }{
		{0, 0, 0}, {1, 0, 1}, {39, 0, 39}, {40, 1, 0}, {41, 1, 1}, {79, 1, 39}, {80, 2, 0}, {119, 2, 39}, {120, 2, 40}, {121, 2, 41}, {127, 2, 47}, {128, 2, 48},
		{159, 2, 79}, {160, 2, 80}, {200, 2, 120}, {1079, 2, 999}, {16383, 2, 16303}, {16384, 2, 16304}, {1<<63 - 1, 2, 1<<63 - 81},
	}
	for _, c := range cases {
		isOid(t, rowOf(c.row), c.first, c.second)
		isOid(t, append(rowOf(c.row), 0), c.first, c.second, 0)
		isOid(t, slices.Concat(rowOf(c.row), rowOf(c.row), rowOf(840)), c.first, c.second, c.row, 840)
	}
	for row := range uint64(20000) {
		oidJudged(t, rowOf(row))
	}
}

func TestP102OidOfAnotherTag(t *testing.T) {
	for tag := range 256 {
		if tag != 6 {
			noOid(t, piece(byte(tag), "2a 86 48"), api.ErrDer)
			noOid(t, piece(byte(tag), ""), api.ErrDer)
			noOid(t, api.Tlv{Tag: byte(tag), Body: make([]byte, 16)}, api.ErrDer)
		}
	}
}

// A row that begins with 80 is none, at each place; 80 within a row is well.
func TestP102OidOfRowsThatBeginWith80(t *testing.T) {
	for _, s := range []string{"80", "80 00", "80 01", "80 7f", "80 80", "80 80 00", "80 81 00", "80 ff 7f", "2a 80 01", "2a 80", "2a 86 48 80 00", "2a 80 86 48", "2a 86 48 80 80 01"} {
		noOid(t, piece(6, s), api.ErrDer)
	}
	isOid(t, unhex("81 00"), 2, 48)
	isOid(t, unhex("2a 81 80 00"), 1, 2, 16384)
	isOid(t, unhex("2a 81 80 80 80 80 80 80 80 00"), 1, 2, 1<<56)
	isOid(t, unhex("81 80 00"), 2, 16304)
}

func TestP102OidOfRowsThatDoNotEnd(t *testing.T) {
	for _, s := range []string{"81", "ff", "81 80", "ff ff", "2a 86", "2a 86 48 86", "2a 86 48 86 f7", "2a ff ff ff ff ff ff ff ff", "2a ff ff ff ff ff ff ff ff ff", "2a 81 81 81 81 81 81 81 81 81 81 81"} {
		noOid(t, piece(6, s), api.ErrDer)
	}
}

// A row's number is below 2^63.
func TestP102OidOfGreatNumbers(t *testing.T) {
	most := unhex("ff ff ff ff ff ff ff ff 7f")
	over := unhex("81 80 80 80 80 80 80 80 80 00")
	isOid(t, most, 2, 1<<63-81)
	isOid(t, append([]byte{0x2a}, most...), 1, 2, 1<<63-1)
	isOid(t, slices.Concat([]byte{0x2a}, most, most, []byte{1}), 1, 2, 1<<63-1, 1<<63-1, 1)
	for _, n := range []uint64{1<<63 - 2, 1<<63 - 1} {
		isOid(t, append([]byte{0x2a}, rowOf(n)...), 1, 2, n)
	}
	for _, n := range []uint64{1 << 63, 1<<63 + 1, 1<<64 - 1} {
		noOid(t, api.Tlv{Tag: 6, Body: rowOf(n)}, api.ErrDer)
		noOid(t, api.Tlv{Tag: 6, Body: append([]byte{0x2a}, rowOf(n)...)}, api.ErrDer)
		noOid(t, api.Tlv{Tag: 6, Body: slices.Concat([]byte{0x2a}, rowOf(n), []byte{1})}, api.ErrDer)
	}
	if !bytes.Equal(rowOf(1<<63), over) {
		t.Fatalf("%x", rowOf(1<<63))
	}
	// Numbers whose lowest 64 bits alone would be small.
	for size := 10; size <= 40; size++ {
		row := append([]byte{0x81}, bytes.Repeat([]byte{0x80}, size-2)...)
		noOid(t, api.Tlv{Tag: 6, Body: append(row, 5)}, api.ErrDer)
		noOid(t, api.Tlv{Tag: 6, Body: append([]byte{0x2a}, append(row, 5)...)}, api.ErrDer)
	}
}

// At most 16 numbers, which are 15 rows; a fault behind more of them is told ahead of that.
func TestP102OidOfManyNumbers(t *testing.T) {
	for rows := 1; rows <= 40; rows++ {
		var b []byte
		want := []uint64{1}
		for at := range rows {
			b = append(b, rowOf(uint64(42+1000*at))...)
			want = append(want, uint64(42+1000*at))
		}
		want[1] = 2
		if rows <= 15 {
			isOid(t, b, want...)
		} else {
			noOid(t, api.Tlv{Tag: 6, Body: b}, api.ErrMany)
		}
		for _, fault := range []string{"80", "81", "80 01", "81 80 80 80 80 80 80 80 80 00", "2a 86", "80 2a"} {
			noOid(t, api.Tlv{Tag: 6, Body: slices.Concat(b, unhex(fault))}, api.ErrDer)
			oidJudged(t, slices.Concat(unhex(fault), b))
		}
	}
	noOid(t, api.Tlv{Tag: 6, Body: make([]byte, 1<<20)}, api.ErrMany)
	noOid(t, api.Tlv{Tag: 6, Body: append(make([]byte, 1<<20), 0x80)}, api.ErrDer)
	noOid(t, api.Tlv{Tag: 6, Body: append(make([]byte, 1<<20), 0x81)}, api.ErrDer)
}

// All bodies of a few bytes that matter are read as the judge says.
func TestP102OidOfAllFewBytes(t *testing.T) {
	signs := []byte{0x00, 0x01, 0x27, 0x28, 0x4f, 0x50, 0x7f, 0x80, 0x81, 0xfe, 0xff}
	last := [][]byte{{}}
	for range 5 {
		var next [][]byte
		for _, b := range last {
			oidJudged(t, b)
			for _, sign := range signs {
				next = append(next, append(slices.Clone(b), sign))
			}
		}
		last = next
	}
}

func TestP102OidDrawn(t *testing.T) {
	draw := rand.New(rand.NewSource(3))
	for range 30000 {
		var b []byte
		for range draw.Intn(20) {
			b = append(b, rowOf(draw.Uint64()>>(1+draw.Intn(63)))...)
		}
		if len(b) > 0 && draw.Intn(4) == 0 {
			b[draw.Intn(len(b))] = []byte{0, 0x7f, 0x80, 0x81, 0xff}[draw.Intn(5)]
		}
		oidJudged(t, b)
	}
}

// What the library writes is read.
func TestP102OidsOfTheLibrary(t *testing.T) {
	for _, want := range []asn1.ObjectIdentifier{{0, 0}, {0, 39}, {1, 0}, {1, 39}, {2, 0}, {2, 39}, {2, 40}, {2, 999, 3}, {1, 2, 840, 113549, 1, 1, 11}, {1, 3, 6, 1, 4, 1, 45724, 1, 1, 4}} {
		b, err := asn1.Marshal(want)
		if err != nil {
			t.Fatal(err)
		}
		one, _, _ := der.Read(b)
		var numbers []uint64
		for _, n := range want {
			numbers = append(numbers, uint64(n))
		}
		if got, err := der.Oid(one); err != api.OK || !slices.Equal(got, numbers) {
			t.Errorf("Oid(%x): %d, error %d; not %d", one, got, err, numbers)
		}
	}
}
