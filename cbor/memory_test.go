package cbor_test

import (
	"bytes"
	"slices"
	"testing"

	"latchkey/api"
	"latchkey/cbor"
)

// deep: a copy of an item that shares nothing with it, with what stands in its lists' spare room.
func deep(i api.Item) api.Item {
	like := api.Item{Kind: i.Kind, N: i.N, B: slices.Clone(i.B[:cap(i.B)])[:len(i.B)]}
	for _, kid := range i.Kids[:cap(i.Kids)] {
		like.Kids = append(like.Kids, deep(kid))
	}
	like.Kids = like.Kids[:len(i.Kids)]
	return like
}

// sameRoom: whether two items are alike, spare room included, as far as the second has it.
func sameRoom(a, b api.Item) bool {
	if !same(a, b) || !bytes.Equal(a.B[:cap(a.B)], b.B[:cap(a.B)]) {
		return false
	}
	for at, kid := range a.Kids[:cap(a.Kids)] {
		if !sameRoom(kid, b.Kids[:cap(a.Kids)][at]) {
			return false
		}
	}
	return true
}

// spoil: writes over an item's lists and all within them, spare room included.
func spoil(i api.Item) {
	for at := range i.B[:cap(i.B)] {
		i.B[:cap(i.B)][at] = '#'
	}
	for at, kid := range i.Kids[:cap(i.Kids)] {
		spoil(kid)
		i.Kids[:cap(i.Kids)][at] = api.Item{Kind: 99, N: 99, B: []byte("spoilt")}
	}
}

// roomy: an item whose lists have spare room with other things in it.
func roomy(i api.Item) api.Item {
	size := len(i.B)
	i.B = append(slices.Clone(i.B), "spare room"...)[:size]
	kids := []api.Item{}
	for _, kid := range i.Kids {
		kids = append(kids, roomy(kid))
	}
	i.Kids = append(kids, number(77), octets("spare"))[:len(kids)]
	return i
}

// many: an item of all kinds, with lists of each kind within it.
func many() api.Item {
	return pairs(number(1), array(number(1), octets("abc"), text("de")), number(2), pairs(octets("k"), octets("v"), text("k"), array(array(number(5)), word(api.CNull))), octets("xyz"), text("long text"), text("a"), array(octets("p"), octets("q")))
}

// Spare room behind the bytes isn't read, whatever would go on there, and isn't written.
func TestR6BytesStayAsTheyAre(t *testing.T) {
	form := formOf(many())
	for end := range len(form) + 1 {
		all := slices.Concat(form, bytes.Repeat([]byte{0x00, 0x61}, 20))
		before := slices.Clone(all)
		_, rest, err := cbor.Decode(all[:end])
		_, whole := cbor.Whole(all[:end])
		if !bytes.Equal(all, before) || len(rest) != 0 {
			t.Errorf("the first %d bytes were changed, or %x is left of them", end, rest)
		}
		if want, _ := judge(form[:end]); err != want || whole != want {
			t.Errorf("the first %d bytes with room behind them: errors %d, %d, not %d", end, err, whole, want)
		}
	}
}

func TestR6BytesAreNotKept(t *testing.T) {
	b := append(formOf(many()), "what is left"...)
	item, rest, _ := cbor.Decode(b)
	whole, _ := cbor.Whole(formOf(many()))
	for at := range b {
		b[at] = '#'
	}
	if !same(item, many()) || !same(whole, many()) || string(rest) != "what is left" {
		t.Errorf("the answer changed with the bytes: %v, %s", item, rest)
	}
}

// What is answered may be written over, grown too, and the bytes stay as they are.
func TestR6AnswersAreNotTheBytes(t *testing.T) {
	b := append(formOf(many()), "what is left"...)
	before := slices.Clone(b)
	item, rest, _ := cbor.Decode(b)
	spoil(item)
	for at := range rest[:cap(rest)] {
		rest[:cap(rest)][at] = '#'
	}
	if !bytes.Equal(b, before) {
		t.Errorf("the bytes changed with the answer: %x", b)
	}
	whole, _ := cbor.Whole(b[:len(formOf(many()))])
	spoil(whole)
	if !bytes.Equal(b, before) {
		t.Errorf("the bytes changed with the answer: %x", b)
	}
}

// walk: calls with each item within one, and itself.
func walk(i *api.Item, with func(*api.Item)) {
	with(i)
	for at := range i.Kids {
		walk(&i.Kids[at], with)
	}
}

// apart: each list of an answer may be written over, spare room included, and the others stay.
func apart(t *testing.T, answer func() api.Item) {
	t.Helper()
	want := answer()
	count := 0
	walk(&want, func(*api.Item) { count++ })
	for place := range count {
		got, at := answer(), 0
		walk(&got, func(i *api.Item) {
			if at++; at == place+1 {
				kids := deep(api.Item{Kids: i.Kids}).Kids
				b := slices.Clone(i.B)
				for at := range i.B[:cap(i.B)] {
					i.B[:cap(i.B)][at] = '#'
				}
				for at := range i.Kids[:cap(i.Kids)] {
					i.Kids[:cap(i.Kids)][at] = api.Item{Kind: 99}
				}
				i.B, i.Kids = b, kids
			}
		})
		if !same(got, want) {
			t.Errorf("item %d shares memory with another one: %v", place, got)
		}
	}
}

func TestR6ListsOfOneAnswerAreApart(t *testing.T) {
	form := formOf(many())
	apart(t, func() api.Item {
		item, _ := cbor.Whole(form)
		return item
	})
	apart(t, func() api.Item {
		item, _, _ := cbor.Decode(append(slices.Clone(form), 0))
		return item
	})
	shared := []api.Item{octets("one"), octets("two")}
	held := pairs(number(1), array(array(shared...), array(shared...), pairs(shared...)))
	apart(t, func() api.Item {
		item, _ := cbor.Get(held, number(1))
		return item
	})
}

func TestR6ItemsStayAsTheyAre(t *testing.T) {
	for _, item := range []api.Item{many(), array(many(), word(77)), array(text("a"), text("\xff")), pairs(number(1)), pairs(number(2), number(1), number(1), number(2)), within(9, 0x55, octets("a")), array(full()[0])} {
		item = roomy(item)
		before := deep(item)
		key := roomy(octets("xyz"))
		keyBefore := deep(key)
		cbor.Encode(item)
		cbor.Get(item, key)
		cbor.Get(item, number(1))
		cbor.Get(item, text("none"))
		if !sameRoom(item, before) || !sameRoom(key, keyBefore) {
			t.Errorf("an item was changed: %v", before)
		}
	}
}

func TestR6ItemsAreNotKept(t *testing.T) {
	item := roomy(many())
	form, err := cbor.Encode(item)
	value, _ := cbor.Get(item, number(2))
	bytesValue, _ := cbor.Get(item, octets("xyz"))
	spoil(item)
	if err != api.OK || !bytes.Equal(form, formOf(many())) {
		t.Errorf("the form changed with the item: %x", form)
	}
	if !same(value, many().Kids[3]) || !same(bytesValue, text("long text")) {
		t.Errorf("a value changed with the map: %v, %v", value, bytesValue)
	}
}

func TestR6ValuesAreNotTheMaps(t *testing.T) {
	item := roomy(many())
	before := deep(item)
	for _, key := range []api.Item{number(1), number(2), octets("xyz"), text("a")} {
		value, _ := cbor.Get(item, key)
		spoil(value)
		value.Kids = append(value.Kids, number(1))
	}
	if !sameRoom(item, before) {
		t.Errorf("the map changed with a value: %v", item)
	}
	first, _ := cbor.Encode(item)
	second, _ := cbor.Encode(item)
	for at := range first[:cap(first)] {
		first[:cap(first)][at] = '#'
	}
	if !bytes.Equal(second, formOf(many())) || !sameRoom(item, before) {
		t.Errorf("two forms share memory: %x", second)
	}
	encodes(t, item, formOf(many()))
	one, two := cbor.Text("same"), cbor.Text("same")
	spoil(one)
	if !same(two, text("same")) || !same(cbor.Text("same"), text("same")) {
		t.Errorf("two texts share memory: %v", two)
	}
}

// Spare room behind a list isn't gone through.
func TestR6SpareRoomIsNotRead(t *testing.T) {
	encodes(t, roomy(many()), formOf(many()))
	kids := []api.Item{number(1), number(2), number(3), number(4)}
	getsNone(t, api.Item{Kind: api.CMap, Kids: kids[:2]}, number(3))
	getsNone(t, api.Item{Kind: api.CMap, Kids: kids[:3]}, number(3))
}

func TestR8OneArgumentOneAnswer(t *testing.T) {
	for _, between := range []string{"", "81 81 81 81 81 81 81 81 81", "18 17", "a2 02 00 01 00", "61 ff", "9b ffffffffffffffff 00", "f7", nestedForm} {
		cbor.Decode(unhex(between))
		cbor.Encode(array(word(88)))
		cbor.Encode(within(9, 0, number(1)))
		decodes(t, formOf(many()), many())
		encodes(t, many(), formOf(many()))
	}
}
