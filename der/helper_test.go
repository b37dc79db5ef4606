package der_test

import (
	"bytes"
	"encoding/binary"
	"encoding/hex"
	"iter"
	"math/big"
	"slices"
	"strings"
	"testing"

	"latchkey/api"
	"latchkey/der"
)

// unhex: bytes that are written in base sixteen, with blanks between them.
func unhex(s string) []byte {
	b, err := hex.DecodeString(strings.ReplaceAll(s, " ", ""))
	if err != nil {
		panic(err)
	}
	return b
}

// piece: one of a tag and a body that is written in base sixteen.
func piece(tag byte, body string) api.Tlv { return api.Tlv{Tag: tag, Body: unhex(body)} }

// body: so many bytes that aren't all alike.
func body(size int) []byte {
	b := make([]byte, size)
	for at := range b {
		b[at] = byte(7*at + at>>8)
	}
	return b
}

// same: whether two pieces are alike; bodies without a byte are alike.
func same(a, b api.Tlv) bool { return a.Tag == b.Tag && bytes.Equal(a.Body, b.Body) }

// lengthOf: a length behind 80 and a count, in just so many bytes.
func lengthOf(size uint64, digits int) []byte {
	var all [8]byte
	binary.BigEndian.PutUint64(all[:], size)
	return append([]byte{byte(0x80 + digits)}, all[8-digits:]...)
}

// shortLength: a length as the chapter writes it, up to 65535.
func shortLength(size int) []byte {
	switch {
	case size <= 127:
		return []byte{byte(size)}
	case size <= 255:
		return []byte{0x81, byte(size)}
	}
	return []byte{0x82, byte(size / 256), byte(size % 256)}
}

// formOf: the chapter's bytes of a piece.
func formOf(t api.Tlv) []byte {
	return slices.Concat([]byte{t.Tag}, shortLength(len(t.Body)), t.Body)
}

// formsOf: the bytes of pieces, one behind the other.
func formsOf(l ...api.Tlv) []byte {
	var b []byte
	for _, t := range l {
		b = append(b, formOf(t)...)
	}
	return b
}

// seq: a sequence of pieces.
func seq(l ...api.Tlv) api.Tlv { return api.Tlv{Tag: der.TSeq, Body: formsOf(l...)} }

// judge: what Read should answer: the piece, of all those that the bytes have room for, whose form they begin with.
func judge(b []byte) (api.Tlv, []byte, api.Errno) {
	if len(b) > 4096 {
		return api.Tlv{}, nil, api.ErrLong
	}
	if len(b) == 0 || b[0]%32 == 31 {
		return api.Tlv{}, nil, api.ErrDer
	}
	for size := range len(b) {
		length := shortLength(size)
		if at := 1 + len(length); bytes.HasPrefix(b[1:], length) && len(b)-at >= size {
			return api.Tlv{Tag: b[0], Body: b[at : at+size]}, b[at+size:], api.OK
		}
	}
	return api.Tlv{}, nil, api.ErrDer
}

// judgeAll: the pieces that All should tell, and the fault behind them, if there is one.
func judgeAll(b []byte) ([]api.Tlv, api.Errno) {
	var l []api.Tlv
	for len(b) > 0 {
		t, rest, err := judge(b)
		if err != api.OK {
			return l, err
		}
		l, b = append(l, t), rest
	}
	return l, api.OK
}

// told: one thing that All tells.
type told struct {
	piece api.Tlv
	err   api.Errno
}

func sameTold(a, b told) bool { return same(a.piece, b.piece) && a.err == b.err }

// goOver: what is told, broken off behind so many.
func goOver(all iter.Seq2[api.Tlv, api.Errno], most int) []told {
	var l []told
	if most == 0 {
		return nil
	}
	for t, err := range all {
		l = append(l, told{t, err})
		if len(l) == most {
			break
		}
	}
	return l
}

// reads: the bytes begin with just that piece, and just that is left.
func reads(t *testing.T, b []byte, want api.Tlv, left []byte) {
	t.Helper()
	got, rest, err := der.Read(b)
	if err != api.OK || !same(got, want) || !bytes.Equal(rest, left) {
		t.Fatalf("Read(%.60x): %.60x, %.60x, error %d; not %.60x, %.60x, no error", b, got, rest, err, want, left)
	}
}

// refused: Read tells that error and nothing else, so do the calls that read.
func refused(t *testing.T, b []byte, want api.Errno) {
	t.Helper()
	got, rest, err := der.Read(b)
	if err != want || !same(got, api.Tlv{}) || len(rest) != 0 {
		t.Fatalf("Read(%.60x): %.60x, %.60x, error %d; not error %d", b, got, rest, err, want)
	}
	if l, err := der.Seq(b); err != want || len(l) != 0 {
		t.Fatalf("Seq(%.60x): %.60x, error %d; not error %d", b, l, err, want)
	}
	if len(b) == 0 {
		return
	}
	if l, err := der.List(b); err != want || len(l) != 0 {
		t.Fatalf("List(%.60x): %.60x, error %d; not error %d", b, l, err, want)
	}
	if l := goOver(der.All(b), 1<<20); !slices.EqualFunc(l, []told{{err: want}}, sameTold) {
		t.Fatalf("All(%.60x): %.60x; not error %d alone", b, l, want)
	}
}

// lists: the bytes are just those pieces, by All and by List.
func lists(t *testing.T, b []byte, want []api.Tlv) {
	t.Helper()
	got, err := der.List(b)
	if err != api.OK || !slices.EqualFunc(got, want, same) {
		t.Fatalf("List(%.60x): %.60x, error %d; not %.60x, no error", b, got, err, want)
	}
	var tells []told
	for _, one := range want {
		tells = append(tells, told{one, api.OK})
	}
	if got := goOver(der.All(b), 1<<20); !slices.EqualFunc(got, tells, sameTold) {
		t.Fatalf("All(%.60x): %.60x; not %.60x", b, got, tells)
	}
}

// judged: the bytes are read as the judge says, by all calls that read.
func judged(t *testing.T, b []byte) {
	t.Helper()
	first, rest, err := judge(b)
	if err != api.OK {
		refused(t, b, err)
		if len(b) > 0 {
			return
		}
	} else {
		reads(t, b, first, rest)
	}
	want, fault := judgeAll(b)
	if fault == api.OK {
		lists(t, b, want)
	} else {
		listRefused(t, b, want, fault)
	}
	if err == api.OK {
		sequenceJudged(t, b, first, rest)
	}
}

// listRefused: All tells those pieces and then that fault, and List the fault alone.
func listRefused(t *testing.T, b []byte, want []api.Tlv, fault api.Errno) {
	t.Helper()
	if l, err := der.List(b); err != fault || len(l) != 0 {
		t.Fatalf("List(%.60x): %.60x, error %d; not error %d", b, l, err, fault)
	}
	var tells []told
	for _, one := range want {
		tells = append(tells, told{one, api.OK})
	}
	tells = append(tells, told{err: fault})
	if got := goOver(der.All(b), 1<<20); !slices.EqualFunc(got, tells, sameTold) {
		t.Fatalf("All(%.60x): %.60x; not %.60x", b, got, tells)
	}
}

// sequenceJudged: Seq of bytes that begin with a piece.
func sequenceJudged(t *testing.T, b []byte, first api.Tlv, rest []byte) {
	t.Helper()
	want, err := judgeAll(first.Body)
	if first.Tag != 0x30 || len(rest) > 0 || err != api.OK {
		want, err = nil, api.ErrDer
	}
	if got, e := der.Seq(b); e != err || !slices.EqualFunc(got, want, same) {
		t.Fatalf("Seq(%.60x): %.60x, error %d; not %.60x, error %d", b, got, e, want, err)
	}
}

// value: the number by the library's reckoning.
func value(a api.Nat) *big.Int {
	b := make([]byte, 0, 8*len(a))
	for _, limb := range slices.Backward(a) {
		b = binary.BigEndian.AppendUint64(b, limb)
	}
	return new(big.Int).SetBytes(b)
}
