package sigs_test

import (
	"bytes"
	"encoding/asn1"
	"math/big"
	"math/rand"
	"slices"
	"testing"

	"latchkey/api"
	"latchkey/sigs"
)

// pairs: the signature is read as just these two numbers, without limbs of 0 on top.
func pairs(t *testing.T, sig []byte, r, s *big.Int) {
	t.Helper()
	gotR, gotS, err := sigs.Pair(sig)
	if err != api.OK || !slices.Equal(gotR, limbsOf(r)) || !slices.Equal(gotS, limbsOf(s)) {
		t.Fatalf("Pair(%.60x): %x, %x, error %d; not %x, %x, no error", sig, gotR, gotS, err, r, s)
	}
}

// unpaired: the signature is refused with ErrSig, whatever is wrong with it, and nothing stands beside that.
func unpaired(t *testing.T, sig []byte) {
	t.Helper()
	r, s, err := sigs.Pair(sig)
	if err != api.ErrSig || len(r) > 0 || len(s) > 0 {
		t.Fatalf("Pair(%.60x), %d bytes: %x, %x, error %d; not none, error %d", sig, len(sig), r, s, err, api.ErrSig)
	}
}

// judge: the two numbers by the library's reader, held against their one form; false: there are none.
func judge(sig []byte) (r, s *big.Int, ok bool) {
	var got struct{ R, S *big.Int }
	rest, err := asn1.Unmarshal(sig, &got)
	if err != nil || len(rest) > 0 || got.R.Sign() < 0 || got.S.Sign() < 0 || got.R.BitLen() > 4096 || got.S.BitLen() > 4096 {
		return nil, nil, false
	}
	return got.R, got.S, bytes.Equal(sig, formOf(got.R, got.S))
}

// judgedPair: the signature is read as the judge says; whether it is one.
func judgedPair(t *testing.T, sig []byte) bool {
	t.Helper()
	r, s, ok := judge(sig)
	if ok {
		pairs(t, sig, r, s)
	} else {
		unpaired(t, sig)
	}
	return ok
}

// example: the chapter's.
func example() []byte { return unhex("30 06 02 01 05 02 01 09") }

func TestP121Example(t *testing.T) {
	pairs(t, example(), big.NewInt(5), big.NewInt(9))
	pairs(t, unhex("30 06 02 01 09 02 01 05"), big.NewInt(9), big.NewInt(5))
	pairs(t, unhex("30 06 02 01 05 02 01 05"), big.NewInt(5), big.NewInt(5))
}

func TestP121NoPiece(t *testing.T) {
	unpaired(t, nil)
	unpaired(t, []byte{})
	for first := range 256 {
		unpaired(t, []byte{byte(first)})
		unpaired(t, []byte{byte(first), 0})
	}
	for size := range example() {
		unpaired(t, example()[:size])
		unpaired(t, example()[size+1:])
	}
	for _, text := range []string{
		"30 07 02 01 05 02 01 09",             // a byte is missing
		"30 05 02 01 05 02 01 09",             // a byte is left
		"30 81 06 02 01 05 02 01 09",          // lengths that may be shorter
		"30 82 00 06 02 01 05 02 01 09",       //
		"30 83 00 00 06 02 01 05 02 01 09",    //
		"30 80 02 01 05 02 01 09 00 00",       // a length that is told by an end
		"30 80 02 01 05 02 01 09",             //
		"30 ff 02 01 05 02 01 09",             //
		"30 07 02 81 01 05 02 01 09",          // within: lengths that may be shorter
		"30 07 02 01 05 02 81 01 09",          //
		"30 08 02 82 00 01 05 02 01 09",       //
		"30 08 02 01 05 02 82 00 01 09",       //
		"30 06 02 01 05 02 02 09",             // the second reaches beyond the sequence
		"30 06 02 01 05 02 02 09 07",          // though bytes stand there
		"30 06 02 04 05 02 01 09",             // the first takes the second in
		"30 06 02 05 05 02 01 09",             //
		"30 04 02 01 05 02",                   // a piece without a length
		"30 06 1f 01 05 02 01 09",             // tags that are none
		"30 06 02 01 05 1f 01 09",             //
		"3f 06 02 01 05 02 01 09",             //
		"1f 06 02 01 05 02 01 09",             //
		"02 01 05 02 01 09",                   // the pieces alone
		"04 08 30 06 02 01 05 02 01 09",       // within another piece
		"30 08 30 06 02 01 05 02 01 09",       //
		"03 09 00 30 06 02 01 05 02 01 09",    //
		"30 0a 30 03 02 01 05 30 03 02 01 09", // each in a sequence of its own
		"30 08 02 01 05 30 03 02 01 09",       //
		"30 08 30 03 02 01 05 02 01 09",       //
		"00 30 06 02 01 05 02 01 09",          // something ahead
	} {
		unpaired(t, unhex(text))
	}
}

func TestP121OtherTags(t *testing.T) {
	for tag := range 256 {
		for _, place := range []int{0, 2, 5} {
			sig := example()
			if sig[place] == byte(tag) {
				continue
			}
			sig[place] = byte(tag)
			unpaired(t, sig)
		}
	}
}

func TestP121SomethingBehind(t *testing.T) {
	for b := range 256 {
		unpaired(t, append(example(), byte(b)))
	}
	unpaired(t, append(example(), 0, 0))
	unpaired(t, append(example(), 5, 0))
	unpaired(t, append(example(), integer(big.NewInt(9))...))
	unpaired(t, append(example(), example()...))
	unpaired(t, append(example(), make([]byte, 4088)...)) // 4096 bytes
	unpaired(t, append(example(), make([]byte, 4089)...))
	// What is behind isn't taken for a missing piece.
	unpaired(t, append(seq(integer(big.NewInt(5))), integer(big.NewInt(9))...))
	unpaired(t, append(seq(), unhex("02 01 05 02 01 09")...))
}

func TestP121HowManyPieces(t *testing.T) {
	five, nine := integer(big.NewInt(5)), integer(big.NewInt(9))
	null := piece(5)
	for many := range 8 {
		var l [][]byte
		for range many {
			l = append(l, five)
		}
		if many == 2 {
			pairs(t, seq(l...), big.NewInt(5), big.NewInt(5))
			continue
		}
		unpaired(t, seq(l...))
	}
	for _, l := range [][][]byte{{}, {five}, {nine}, {null}, {null, null}, {five, null}, {null, nine}, {null, five, nine}, {five, null, nine}, {five, nine, null}, {five, nine, five}, {five, nine, integer(new(big.Int))}, {five, nine, seq()}, {five, nine, five, nine}} {
		unpaired(t, seq(l...))
	}
	// A fault behind two right pieces counts.
	for _, text := range []string{"00", "02", "02 01", "1f 00", "30 81 00", "02 02 00"} {
		unpaired(t, seq(five, nine, unhex(text)))
		unpaired(t, seq(five, unhex(text)))
		unpaired(t, seq(unhex(text)))
	}
}

// right: numbers of all sizes: their pieces are taken.
func right() []*big.Int {
	out := []*big.Int{big.NewInt(0), big.NewInt(1), big.NewInt(5)}
	for _, bytes := range []uint{1, 2, 7, 8, 9, 16, 17, 32, 33, 63, 64, 65, 125, 126, 127, 128, 129, 255, 256, 257, 511, 512} {
		edge := twoTo(8 * bytes)
		half := twoTo(8*bytes - 1)
		out = append(out, twoTo(8*bytes-8), plus(half, -1), half, plus(edge, -1), plus(edge, -300))
	}
	return slices.DeleteFunc(out, func(n *big.Int) bool { return n.Sign() < 0 })
}

// wrong: pieces that der.Int refuses.
func wrong() [][]byte {
	var out [][]byte
	for _, text := range []string{"", "80", "ff", "ff 7f", "80 00", "fb", "00 00", "00 05", "00 7f", "00 7f ff", "00 00 80", "00 00 00 00", "ff ff"} {
		out = append(out, piece(2, unhex(text)...))
	}
	for _, tag := range []byte{0x00, 0x01, 0x03, 0x04, 0x05, 0x06, 0x0a, 0x22, 0x30, 0x42, 0x82, 0xa2, 0xc2} {
		out = append(out, piece(tag, 5), piece(tag))
	}
	long := func(size int, first ...byte) []byte { return append(first, bytes.Repeat([]byte{0xee}, size)...) }
	return append(out,
		piece(2, long(512, 0x01)...), piece(2, long(512, 0x7f)...), piece(2, long(512, 0xff)...), // 513 bytes
		piece(2, long(513, 0x00)...), piece(2, long(511, 0x00, 0x7f)...), piece(2, long(512, 0x00, 0x00)...),
		piece(2, long(512)...), piece(2, long(600, 0x01)...), piece(2, long(2000, 0x01)...))
}

func TestP121RightNumbers(t *testing.T) {
	for _, r := range right() {
		for _, s := range right() {
			pairs(t, formOf(r, s), r, s)
		}
	}
	zero := new(big.Int)
	pairs(t, unhex("30 06 02 01 00 02 01 00"), zero, zero)
	pairs(t, unhex("30 08 02 02 00 80 02 02 00 ff"), big.NewInt(128), big.NewInt(255))
	pairs(t, unhex("30 08 02 02 01 00 02 02 7f ff"), big.NewInt(256), big.NewInt(32767))
}

func TestP121WrongNumbers(t *testing.T) {
	for _, one := range wrong() {
		for _, n := range right() {
			unpaired(t, seq(one, integer(n)))
			unpaired(t, seq(integer(n), one))
		}
		for _, other := range wrong() {
			unpaired(t, seq(one, other))
		}
	}
}

// Numbers of 512 bytes are the greatest that are read; one byte more is none.
func TestP121TheGreatestNumbers(t *testing.T) {
	last, beyond := plus(twoTo(4096), -1), twoTo(4096)
	pairs(t, formOf(last, last), last, last)
	pairs(t, formOf(last, big.NewInt(1)), last, big.NewInt(1))
	pairs(t, formOf(big.NewInt(1), last), big.NewInt(1), last)
	unpaired(t, formOf(beyond, big.NewInt(1)))
	unpaired(t, formOf(big.NewInt(1), beyond))
	unpaired(t, formOf(last, beyond))
	unpaired(t, formOf(beyond, last))
	unpaired(t, formOf(beyond, beyond))
}

// As many bytes as are read, and one more: in neither may two numbers stand alone.
func TestP121ManyBytes(t *testing.T) {
	five := integer(big.NewInt(5))
	for _, size := range []int{4095, 4096, 4097, 5000, 70000} {
		unpaired(t, make([]byte, size))
		unpaired(t, bytes.Repeat([]byte{0x30}, size))
		unpaired(t, bytes.Repeat([]byte{0xff}, size))
		unpaired(t, append(example(), make([]byte, size-8)...))
		unpaired(t, append(five, make([]byte, size-3)...))
		if size > 65000 {
			continue
		}
		long := func(room int) []byte { return piece(2, bytes.Repeat([]byte{1}, room-4)...) }
		for _, sig := range [][]byte{seq(five, long(size-7)), seq(long(size-7), five), seq(five, five, long(size-10))} {
			if len(sig) != size {
				t.Fatalf("%d bytes, not %d", len(sig), size)
			}
			unpaired(t, sig)
		}
		nulls := bytes.Repeat(piece(5), (size-4-6)/2)
		unpaired(t, seq(five, five, nulls))
		unpaired(t, seq(nulls, five, five))
	}
}

// Each byte of some signatures made each other one, judged by the library's reader.
func TestP121EachByteMadeAnother(t *testing.T) {
	taken := 0
	for _, sig := range [][]byte{example(), unhex("30 08 02 02 00 80 02 02 01 00"), unhex("30 07 02 01 00 02 02 00 ff"), formOf(plus(twoTo(256), -5), twoTo(200)), formOf(twoTo(900), twoTo(1030))} {
		for place, was := range sig {
			for b := range 256 {
				sig[place] = byte(b)
				if judgedPair(t, sig) {
					taken++
				}
			}
			sig[place] = was
		}
	}
	if taken < 1000 {
		t.Errorf("only %d are signatures", taken)
	}
}

// Bytes drawn from the few that lead on, judged by the library's reader.
func TestP121Drawn(t *testing.T) {
	draw := rand.New(rand.NewSource(12))
	taken := 0
	likely := []byte{0, 1, 2, 2, 3, 4, 5, 6, 8, 0x30, 0x7f, 0x80, 0x81, 0x82, 0xff}
	for range 300000 {
		sig := make([]byte, draw.Intn(14))
		for at := range sig {
			sig[at] = likely[draw.Intn(len(likely))]
		}
		if len(sig) > 5 && draw.Intn(4) > 0 {
			first := draw.Intn(len(sig) - 5)
			sig[0], sig[1], sig[2], sig[3] = 0x30, byte(len(sig)-2), 2, byte(first)
			if second := 4 + first; second+1 < len(sig) {
				sig[second], sig[second+1] = 2, byte(len(sig)-second-2)
			}
		}
		if judgedPair(t, sig) {
			taken++
		}
	}
	if taken < 10000 || taken > 290000 {
		t.Errorf("%d are signatures", taken)
	}
}
