package cbor_test

import (
	"math/rand"
	"slices"
	"strings"
	"testing"

	"latchkey/api"
	"latchkey/cbor"
)

// drawer draws items, with a seed so that each run is the same.
type drawer struct{ *rand.Rand }

func (d drawer) number() uint64 {
	edge := edges[d.Intn(len(edges))].n
	return []uint64{edge, uint64(d.Intn(30)), d.Uint64() >> d.Intn(64)}[d.Intn(3)]
}

func (d drawer) text() string {
	var s strings.Builder
	for range d.Intn(5) {
		s.WriteString([]string{"a", "b", "\u00e9", "\U0001f511", "\x00", "long piece of more than 24 signs"}[d.Intn(6)])
	}
	return s.String()
}

// plain: an item that may be a key.
func (d drawer) plain() api.Item {
	switch d.Intn(4) {
	case 0:
		return number(d.number())
	case 1:
		return negative(d.number())
	case 2:
		return octets(d.text() + []string{"", "\xff", "\x80"}[d.Intn(3)])
	}
	return text(d.text())
}

// item: one with others within it, down to that depth; keys rise.
func (d drawer) item(depth int) api.Item {
	kind := d.Intn(9)
	switch {
	case kind < 3:
		return d.plain()
	case kind < 4 || depth == 0:
		return word(api.CFalse + api.ItemKind(d.Intn(3)))
	case kind < 7:
		var kids []api.Item
		for range d.Intn(5) {
			kids = append(kids, d.item(depth-1))
		}
		return array(kids...)
	}
	forms := map[string]api.Item{}
	for range d.Intn(5) {
		key := d.plain()
		forms[string(formOf(key))] = key
	}
	var names []string
	for name := range forms {
		names = append(names, name)
	}
	slices.Sort(names)
	var kids []api.Item
	for _, name := range names {
		kids = append(kids, forms[name], d.item(depth-1))
	}
	return pairs(kids...)
}

// hurt: bytes with few changes.
func (d drawer) hurt(b []byte) []byte {
	pieces := []string{"", "\x00", "\x18\x17", "\x18", "\x1c", "\x20", "\x40", "\x41", "\x61", "\x61\xff", "\x80", "\x81", "\x82", "\xa0", "\xa1", "\xa2\x01\x00\x00\x00", "\xc0", "\xf4", "\xf7", "\xff", "\x81\x81\x81\x81\x81", "\x9b\xff\xff\xff\xff\xff\xff\xff\xff"}
	for range 1 + d.Intn(3) {
		from := d.Intn(len(b) + 1)
		to := min(len(b), from+d.Intn(3))
		b = slices.Concat(b[:from], []byte(pieces[d.Intn(len(pieces))]), b[to:])
		if d.Intn(8) == 0 && len(b) > 0 {
			b[d.Intn(len(b))] ^= 1 << d.Intn(8)
		}
	}
	return b
}

// harm: an item with one change somewhere within it.
func (d drawer) harm(i api.Item) api.Item {
	i = deep(i)
	var all []*api.Item
	walk(&i, func(one *api.Item) { all = append(all, one) })
	one := all[d.Intn(len(all))]
	switch d.Intn(9) {
	case 0:
		one.Kind = api.ItemKind(d.Intn(12))
	case 1:
		one.B = append(one.B, 0xff)
	case 2:
		one.Kids = append(one.Kids, d.item(2))
	case 3:
		if len(one.Kids) > 0 {
			one.Kids = one.Kids[1:]
		}
	case 4:
		slices.Reverse(one.Kids)
	case 5:
		one.N = d.number()
	case 6:
		*one = within(1+d.Intn(9), d.Intn(512), *one)
	case 7:
		one.Kids = append(one.Kids, one.Kids...)
	case 8:
		*one = octets(strings.Repeat("a", d.Intn(3)*5000))
	}
	return i
}

func TestP61P62DrawnItems(t *testing.T) {
	d := drawer{rand.New(rand.NewSource(6))}
	for range 15000 {
		item := d.item(1 + d.Intn(7))
		form := formOf(item)
		decodes(t, form, item)
		encodes(t, item, form)
		judged(t, d.hurt(form))
		judged(t, d.hurt(form))
		judged(t, d.hurt(d.hurt(form)))
		judgedItem(t, d.harm(item))
		judgedItem(t, d.harm(d.harm(item)))
	}
}

// Many small items, so that limits and other errors stand near one another.
func TestP61P62DrawnItemsNearTheMost(t *testing.T) {
	d := drawer{rand.New(rand.NewSource(7))}
	for range 3000 {
		kids := slices.Repeat([]api.Item{d.item(0)}, 490+d.Intn(20))
		for range d.Intn(6) {
			kids = append(kids, d.item(8))
		}
		item := within(d.Intn(9), d.Intn(512), array(kids...))
		judgedItem(t, item)
		judgedItem(t, d.harm(item))
		form := formOf(item)
		judged(t, form)
		cut := len(form) - min(len(form), 30)
		judged(t, slices.Concat(form[:cut], d.hurt(form[cut:])))
	}
}

func TestP61DrawnBytes(t *testing.T) {
	d := drawer{rand.New(rand.NewSource(8))}
	for range 100000 {
		b := make([]byte, d.Intn(16))
		d.Read(b)
		judged(t, b)
	}
}

// The value of each key, and none of others, by looking through all pairs from the last on.
func TestP63DrawnMaps(t *testing.T) {
	d := drawer{rand.New(rand.NewSource(9))}
	few := []api.Item{number(0), number(1), negative(0), negative(1), octets(""), octets("a"), text(""), text("a"), array(), word(api.CNull)}
	for range 20000 {
		var kids []api.Item
		for range d.Intn(9) {
			kids = append(kids, few[d.Intn(len(few))])
		}
		for at, key := range few {
			var want api.Item
			found := false
			for place := len(kids)/2*2 - 2; place >= 0 && at < 8; place -= 2 {
				if same(kids[place], key) {
					want, found = kids[place+1], true
				}
			}
			if got, ok := cbor.Get(pairs(kids...), key); ok != found || !same(got, want) {
				t.Fatalf("Get(%v, %v): %v, %t; not %v, %t", kids, key, got, ok, want, found)
			}
		}
	}
}
