package der_test

import (
	"slices"
	"testing"

	"latchkey/api"
	"latchkey/der"
)

// some: pieces of many sizes, one like another one among them.
func some() []api.Tlv {
	return []api.Tlv{piece(2, "05"), piece(5, ""), {Tag: 4, Body: body(127)}, {Tag: 4, Body: body(128)}, piece(2, "05"), {Tag: 0xa0, Body: body(300)}, seq(piece(2, "01"), piece(0x31, "")), piece(0, "")}
}

func TestP101AllAndList(t *testing.T) {
	for end := range len(some()) + 1 {
		lists(t, formsOf(some()[:end]...), some()[:end])
	}
	var many []api.Tlv
	for range 2048 {
		many = append(many, piece(5, ""))
	}
	lists(t, formsOf(many...), many)
	refused(t, formsOf(append(many, piece(5, ""))...), api.ErrLong)
	refused(t, append(formsOf(many...), 5), api.ErrLong)
}

// faults: what may stand behind pieces and is none.
func faults() [][]byte {
	return [][]byte{{5}, {0x1f}, {0x1f, 0}, {0xff, 0xff}, {4, 0x80}, {4, 0x81, 0x7f}, {4, 0x83, 0, 0, 0}, {4, 1}, {4, 2, 0}, {4, 0x82, 0, 0xff}, {4, 0x82, 1, 0}}
}

// The first fault ends All, though pieces stand behind it; List tells the fault alone.
func TestP101AllEndsBehindTheFirstFault(t *testing.T) {
	for _, fault := range faults() {
		for at := range len(some()) + 1 {
			ahead := some()[:at]
			listRefused(t, slices.Concat(formsOf(ahead...), fault), ahead, api.ErrDer)
		}
	}
	for _, fault := range [][]byte{{0x1f, 0}, {4, 0x80}, {4, 0x81, 0x00}, {4, 0x83, 0, 0, 0}} {
		b := slices.Concat(formsOf(some()...), fault, formsOf(some()...), fault)
		listRefused(t, b, some(), api.ErrDer)
	}
}

// All tells one thing too many bytes: the fault, whatever they begin with.
func TestP101AllOfTooManyBytes(t *testing.T) {
	full := append(formsOf(some()...), formOf(api.Tlv{Tag: 4, Body: body(4092 - len(formsOf(some()...)))})...)
	if len(full) != 4096 {
		t.Fatalf("%d bytes", len(full))
	}
	want, fault := judgeAll(full)
	if fault != api.OK {
		t.Fatal("no pieces")
	}
	lists(t, full, want)
	for _, more := range [][]byte{{0}, {5, 0}, make([]byte, 5000)} {
		refused(t, slices.Concat(full, more), api.ErrLong)
	}
}

// All, broken off at each place, asks for nothing more; gone over again, it begins anew.
func TestP101AllBrokenOffAndGoneOverAgain(t *testing.T) {
	for _, b := range [][]byte{nil, formsOf(some()...), append(formsOf(some()...), 0x1f), {0x1f}, make([]byte, 5000)} {
		all := der.All(b)
		whole := goOver(all, 1<<20)
		for most := range len(whole) + 2 {
			if got, want := goOver(all, most), whole[:min(most, len(whole))]; !slices.EqualFunc(got, want, sameTold) {
				t.Errorf("All(%.60x), broken off behind %d: %x, not %x", b, most, got, want)
			}
			if got := goOver(all, 1<<20); !slices.EqualFunc(got, whole, sameTold) {
				t.Errorf("All(%.60x), gone over again: %x, not %x", b, got, whole)
			}
			calls := 0
			all(func(api.Tlv, api.Errno) bool { calls++; return calls < most })
			if want := min(max(most, 1), len(whole)); calls != want {
				t.Errorf("All(%.60x): %d calls, not %d", b, calls, want)
			}
		}
	}
}

// Two that go over the same pieces at once don't disturb one another.
func TestP101AllGoneOverWithinItself(t *testing.T) {
	all := der.All(append(formsOf(some()...), 0x1f))
	whole := goOver(all, 1<<20)
	at := 0
	for one, err := range all {
		if !sameTold(told{one, err}, whole[at]) || !slices.EqualFunc(goOver(all, at), whole[:at], sameTold) {
			t.Errorf("piece %d: %x, error %d", at, one, err)
		}
		at++
	}
	if at != len(whole) {
		t.Errorf("%d, not %d", at, len(whole))
	}
}

// sequences: Seq answers just those pieces.
func sequences(t *testing.T, b []byte, want []api.Tlv) {
	t.Helper()
	got, err := der.Seq(b)
	if err != api.OK || !slices.EqualFunc(got, want, same) {
		t.Fatalf("Seq(%.60x): %.60x, error %d; not %.60x, no error", b, got, err, want)
	}
}

// noSequence: Seq answers that error alone.
func noSequence(t *testing.T, b []byte, want api.Errno) {
	t.Helper()
	if got, err := der.Seq(b); err != want || len(got) != 0 {
		t.Fatalf("Seq(%.60x): %.60x, error %d; not error %d", b, got, err, want)
	}
}

func TestP101Seq(t *testing.T) {
	sequences(t, unhex("30 03 02 01 05"), []api.Tlv{piece(2, "05")})
	sequences(t, unhex("30 00"), nil)
	sequences(t, unhex("30 02 30 00"), []api.Tlv{piece(0x30, "")})
	for end := range len(some()) + 1 {
		sequences(t, formOf(seq(some()[:end]...)), some()[:end])
	}
	full := api.Tlv{Tag: 4, Body: body(4088)}
	sequences(t, formOf(seq(full)), []api.Tlv{full})
	noSequence(t, formOf(seq(api.Tlv{Tag: 4, Body: body(4089)})), api.ErrLong)
	noSequence(t, formOf(seq(full, piece(0x1f, ""))), api.ErrLong)
}

func TestP101SeqOfAnotherTag(t *testing.T) {
	for tag := range 256 {
		b := formOf(api.Tlv{Tag: byte(tag), Body: formsOf(some()...)})
		if tag == 0x30 {
			sequences(t, b, some())
		} else {
			noSequence(t, b, api.ErrDer)
		}
	}
}

func TestP101SeqWithSomethingLeft(t *testing.T) {
	whole := formOf(seq(some()...))
	for _, left := range [][]byte{{0}, {5, 0}, whole, {0x30, 0}, {0xff}} {
		noSequence(t, slices.Concat(whole, left), api.ErrDer)
	}
	noSequence(t, append(whole, make([]byte, 5000)...), api.ErrLong)
}

func TestP101SeqWithAFaultWithin(t *testing.T) {
	for _, fault := range faults() {
		for at := range len(some()) + 1 {
			noSequence(t, formOf(api.Tlv{Tag: 0x30, Body: append(formsOf(some()[:at]...), fault...)}), api.ErrDer)
		}
	}
	// What is within its pieces isn't looked at.
	sequences(t, unhex("30 04 30 02 1f ff"), []api.Tlv{piece(0x30, "1f ff")})
	whole := formOf(seq(some()...))
	for end := range whole {
		noSequence(t, whole[:end], api.ErrDer)
	}
}
