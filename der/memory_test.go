package der_test

import (
	"bytes"
	"slices"
	"testing"

	"latchkey/api"
	"latchkey/der"
)

// answer: all that a call may tell.
type answer struct {
	bytes   [][]byte
	tags    []byte
	numbers []uint64
	is      bool
	count   uint64
	err     api.Errno
}

func (a answer) same(b answer) bool {
	return slices.EqualFunc(a.bytes, b.bytes, bytes.Equal) && bytes.Equal(a.tags, b.tags) && slices.Equal(a.numbers, b.numbers) && a.is == b.is && a.count == b.count && a.err == b.err
}

// clone: the same in memory of its own.
func (a answer) clone() answer {
	like := a
	like.bytes = nil
	for _, b := range a.bytes {
		like.bytes = append(like.bytes, slices.Clone(b))
	}
	like.tags, like.numbers = slices.Clone(a.tags), slices.Clone(a.numbers)
	return like
}

// spoil: writes over the lists, their spare room included.
func (a answer) spoil() {
	for _, b := range a.bytes {
		spoil(b)
	}
	for at := range a.numbers[:cap(a.numbers)] {
		a.numbers[:cap(a.numbers)][at] = 0xdead
	}
}

// spoil: writes over bytes, their spare room included.
func spoil(b []byte) {
	b = b[:cap(b)]
	for at := range b {
		b[at] = 0xee
	}
}

// pieces: an answer that is a list of pieces.
func pieces(l []api.Tlv, err api.Errno) answer {
	a := answer{err: err}
	for _, one := range l {
		a.tags = append(a.tags, one.Tag)
		a.bytes = append(a.bytes, one.Body)
	}
	return a
}

// call: one way to call the package, with a tag where it takes a piece.
type call struct {
	name string
	do   func(tag byte, b []byte) answer
}

// calls: all of the package's.
func calls() []call {
	return []call{
		{"Read", func(_ byte, b []byte) answer {
			one, rest, err := der.Read(b)
			return answer{tags: []byte{one.Tag}, bytes: [][]byte{one.Body, rest}, err: err}
		}},
		{"All", func(_ byte, b []byte) answer {
			var l []api.Tlv
			var last api.Errno
			for one, err := range der.All(b) {
				l, last = append(l, one), err
			}
			return pieces(l, last)
		}},
		{"List", func(_ byte, b []byte) answer { return pieces(der.List(b)) }},
		{"Seq", func(_ byte, b []byte) answer { return pieces(der.Seq(b)) }},
		{"Write", func(tag byte, b []byte) answer {
			form, err := der.Write(api.Tlv{Tag: tag, Body: b})
			return answer{bytes: [][]byte{form}, err: err}
		}},
		{"Int", func(tag byte, b []byte) answer {
			n, err := der.Int(api.Tlv{Tag: tag, Body: b})
			return answer{numbers: n, err: err}
		}},
		{"Oid", func(tag byte, b []byte) answer {
			l, err := der.Oid(api.Tlv{Tag: tag, Body: b})
			return answer{numbers: l, err: err}
		}},
		{"Bits", func(tag byte, b []byte) answer {
			octets, spare, err := der.Bits(api.Tlv{Tag: tag, Body: b})
			return answer{bytes: [][]byte{octets}, count: uint64(spare), err: err}
		}},
		{"Bool", func(tag byte, b []byte) answer {
			is, err := der.Bool(api.Tlv{Tag: tag, Body: b})
			return answer{is: is, err: err}
		}},
		{"Time", func(tag byte, b []byte) answer {
			seconds, err := der.Time(api.Tlv{Tag: tag, Body: b})
			return answer{count: seconds, err: err}
		}},
	}
}

// args: what a call may be handed.
type args struct {
	tag byte
	b   []byte
}

// handed: arguments that lead along each way through the calls.
func handed() []args {
	var out []args
	for _, b := range [][]byte{nil, {}, {0x30}, formsOf(some()...), append(formsOf(some()...), 0x1f), formOf(seq(some()...)), append(formOf(seq(some()...)), 0), formOf(seq()), make([]byte, 4096), make([]byte, 4097)} {
		out = append(out, args{0x30, b})
	}
	out = append(out, args{0x1f, []byte{1}}, args{4, body(4092)}, args{4, body(4093)})
	for tag, texts := range map[byte][]string{
		1: {"", "00", "ff", "01", "ff ff"},
		2: {"", "05", "00 80", "00 05", "80", "01 02 03 04 05 06 07 08 09"},
		3: {"", "00", "00 01 02 03", "02 04", "02 06", "08 00", "01"},
		6: {"", "2a 86 48", "2a 80 01", "2a 86", "00 00 00 00 00 00 00 00 00 00 00 00 00 00 00 00"},
	} {
		for _, text := range texts {
			out = append(out, args{tag, unhex(text)})
		}
	}
	out = append(out, args{2, append([]byte{0}, bytes.Repeat([]byte{0xff}, 512)...)}, args{2, bytes.Repeat([]byte{1}, 513)})
	for _, text := range []string{"700101000001Z", "691231235959Z", "700101000001", "20500101000001Z", "20500101000060Z"} {
		out = append(out, args{0x17, []byte(text)}, args{0x18, []byte(text)})
	}
	return out
}

// roomy: the bytes in memory with spare room behind them, in which others stand that would go on, and all of that memory.
func roomy(b []byte, spare string) ([]byte, []byte) {
	all := append(slices.Clone(b), spare...)
	return all[:len(b)], all
}

// spares: what may stand in spare room.
func spares() []string {
	return []string{"\x00\x00\x00\x00\x00\x00", "\x05\x00\x05\x00\x05\x00", "000000Z", "\xff\xff\xff\xff"}
}

func TestR6ArgumentsStayAsTheyAre(t *testing.T) {
	for _, c := range calls() {
		for _, h := range handed() {
			for _, spare := range spares() {
				b, whole := roomy(h.b, spare)
				before := slices.Clone(whole)
				want := c.do(h.tag, slices.Clip(slices.Clone(h.b))).clone()
				got := c.do(h.tag, b)
				if !got.same(want) {
					t.Errorf("%s %x %.60x: spare room changed the answer", c.name, h.tag, h.b)
				}
				got.spoil()
				if !bytes.Equal(whole, before) {
					t.Errorf("%s %x %.60x: the argument was changed, or shares memory with the answer", c.name, h.tag, h.b)
				}
			}
		}
	}
}

func TestR6AnswersStayAsTheyAre(t *testing.T) {
	for _, c := range calls() {
		for _, h := range handed() {
			want := c.do(h.tag, h.b).clone()
			b, whole := roomy(h.b, "spare")
			got := c.do(h.tag, b)
			spoil(whole)
			if !got.same(want) {
				t.Errorf("%s %x %.60x: the argument's change changed the answer", c.name, h.tag, h.b)
			}
			got.spoil()
			if again := c.do(h.tag, h.b); !again.same(want) {
				t.Errorf("%s %x %.60x: an answer's change changed the next answer", c.name, h.tag, h.b)
			}
		}
	}
}

// Each list of an answer may be written over, spare room included, and the others stay.
func TestR6ListsOfOneAnswerAreApart(t *testing.T) {
	for _, c := range calls() {
		for _, h := range handed() {
			want := c.do(h.tag, h.b).clone()
			for at := range want.bytes {
				got := c.do(h.tag, h.b)
				spoil(got.bytes[at])
				got.bytes[at] = want.bytes[at]
				if !got.same(want) {
					t.Errorf("%s %x %.60x: list %d shares memory with another one", c.name, h.tag, h.b, at)
				}
			}
		}
	}
}

// All goes over the bytes as they were when it was called, and what it told may be written over.
func TestR6AllKeepsNothingOfTheCallers(t *testing.T) {
	for _, form := range [][]byte{formsOf(some()...), append(formsOf(some()...), 0x1f), make([]byte, 4097), nil} {
		want := goOver(der.All(form), 1<<20)
		b, whole := roomy(form, "spare")
		all := der.All(b)
		spoil(whole)
		for range 3 {
			at := 0
			for one, err := range all {
				if at >= len(want) || !sameTold(told{one, err}, want[at]) {
					t.Fatalf("All(%.60x): %.60x, error %d at %d", form, one, err, at)
				}
				spoil(one.Body)
				at++
			}
			if at != len(want) {
				t.Errorf("All(%.60x): %d pieces, not %d", form, at, len(want))
			}
		}
		for at, fill := range whole {
			if fill != 0xee {
				t.Fatalf("All(%.60x): the argument was changed at %d", form, at)
			}
		}
	}
}

// A list that is empty may be nil or empty.
func TestR5NilOrEmpty(t *testing.T) {
	for _, c := range calls() {
		for tag := range 256 {
			want := c.do(byte(tag), nil)
			if got := c.do(byte(tag), []byte{}); !got.same(want) {
				t.Errorf("%s %x: nil and empty are told apart", c.name, tag)
			}
		}
	}
}

// What was asked ahead changes no answer.
func TestR8OneArgumentOneAnswer(t *testing.T) {
	for _, c := range calls() {
		for _, h := range handed() {
			want := c.do(h.tag, h.b).clone()
			for _, other := range calls() {
				for _, between := range handed() {
					other.do(between.tag, between.b)
				}
			}
			if got := c.do(h.tag, h.b); !got.same(want) {
				t.Errorf("%s %x %.60x: another answer than ahead", c.name, h.tag, h.b)
			}
		}
	}
}

// Whatever is handed in, each call answers, and beside an error nothing.
func TestP1NoCallPanics(t *testing.T) {
	bodies := [][]byte{nil, make([]byte, 1<<16)}
	for first := range 256 {
		for _, size := range []int{1, 2, 3, 4, 13, 15, 130, 260, 513, 514, 4096, 4097} {
			b := body(size)
			b[0] = byte(first)
			bodies = append(bodies, b, bytes.Repeat([]byte{byte(first)}, size))
		}
	}
	for _, c := range calls() {
		for tag := range 256 {
			for at, b := range bodies {
				if tag > 0x31 && at%64 != 0 {
					continue // tags that no call asks for
				}
				got := c.do(byte(tag), b)
				empty := answer{bytes: make([][]byte, len(got.bytes)), tags: make([]byte, len(got.tags)), err: got.err}
				if got.err != api.OK && c.name != "All" && !got.same(empty) {
					t.Fatalf("%s %x %.60x: something beside error %d", c.name, tag, b, got.err)
				}
			}
		}
	}
}
