package cbor_test

import (
	"bytes"
	"encoding/binary"
	"encoding/hex"
	"slices"
	"strings"
	"testing"
	"unicode/utf8"

	"latchkey/api"
	"latchkey/cbor"
)

func number(n uint64) api.Item { return api.Item{Kind: api.CUint, N: n} }

func negative(n uint64) api.Item { return api.Item{Kind: api.CNeg, N: n} }

func octets(s string) api.Item { return api.Item{Kind: api.CBytes, B: []byte(s)} }

func text(s string) api.Item { return api.Item{Kind: api.CText, B: []byte(s)} }

func array(kids ...api.Item) api.Item { return api.Item{Kind: api.CArray, Kids: kids} }

func pairs(kids ...api.Item) api.Item { return api.Item{Kind: api.CMap, Kids: kids} }

func word(kind api.ItemKind) api.Item { return api.Item{Kind: kind} }

// same: whether two items are alike in all fields; lists without anything in them are alike.
func same(a, b api.Item) bool {
	return a.Kind == b.Kind && a.N == b.N && bytes.Equal(a.B, b.B) && slices.EqualFunc(a.Kids, b.Kids, same)
}

func isZero(i api.Item) bool { return same(i, api.Item{}) }

// unhex: bytes that are written in base sixteen, with blanks between them.
func unhex(s string) []byte {
	b, err := hex.DecodeString(strings.ReplaceAll(s, " ", ""))
	if err != nil {
		panic(err)
	}
	return b
}

// begins: the bytes begin with just that item, and just that is left.
func begins(t *testing.T, b []byte, want api.Item, left []byte) {
	t.Helper()
	got, rest, err := cbor.Decode(b)
	if err != api.OK || !same(got, want) || !bytes.Equal(rest, left) {
		t.Fatalf("Decode(%.100x): %v, %x, error %d; not %v, %x, no error", b, got, rest, err, want, left)
	}
}

// decodes: the bytes are just that item, and begin with it where others stand behind.
func decodes(t *testing.T, b []byte, want api.Item) {
	t.Helper()
	begins(t, b, want, nil)
	got, err := cbor.Whole(b)
	if err != api.OK || !same(got, want) {
		t.Fatalf("Whole(%.100x): %v, error %d; not %v, no error", b, got, err, want)
	}
	for _, left := range []string{"\x00", "\xff", "\x1c\x00"} {
		if longer := slices.Concat(b, []byte(left)); len(longer) <= api.MaxCbor {
			begins(t, longer, want, []byte(left))
			wholeRefused(t, longer, api.ErrCbor)
		}
	}
}

func wholeRefused(t *testing.T, b []byte, want api.Errno) {
	t.Helper()
	if got, err := cbor.Whole(b); err != want || !isZero(got) {
		t.Fatalf("Whole(%.100x), %d bytes: %v, error %d; not none, error %d", b, len(b), got, err, want)
	}
}

// refused: the bytes are refused with just that error, and nothing stands beside it.
func refused(t *testing.T, b []byte, want api.Errno) {
	t.Helper()
	got, rest, err := cbor.Decode(b)
	if err != want || !isZero(got) || len(rest) != 0 {
		t.Fatalf("Decode(%.100x), %d bytes: %v, %x, error %d; not none, error %d", b, len(b), got, rest, err, want)
	}
	wholeRefused(t, b, want)
}

// encodes: the item's form is just that, and is read as the item, without what its fields hold beside.
func encodes(t *testing.T, i api.Item, want []byte) {
	t.Helper()
	got, err := cbor.Encode(i)
	if err != api.OK || !bytes.Equal(got, want) {
		t.Fatalf("Encode(%.300v): %.100x, error %d; not %.100x, no error", i, got, err, want)
	}
	if back, err := cbor.Whole(got); err != api.OK || !same(back, bare(i)) {
		t.Fatalf("Whole(%.100x): %v, error %d; not %.300v, no error", got, back, err, i)
	}
}

// bare: an item with just those fields that its kind gives a meaning.
func bare(i api.Item) api.Item {
	like := api.Item{Kind: i.Kind}
	switch i.Kind {
	case api.CUint, api.CNeg:
		like.N = i.N
	case api.CBytes, api.CText:
		like.B = i.B
	case api.CArray, api.CMap:
		for _, kid := range i.Kids {
			like.Kids = append(like.Kids, bare(kid))
		}
	}
	return like
}

// bothWays: the form in base sixteen is the item's, and the item is read from it.
func bothWays(t *testing.T, form string, i api.Item) {
	t.Helper()
	decodes(t, unhex(form), i)
	encodes(t, i, unhex(form))
}

// unwritten: the item is refused with just that error, and no form stands beside it.
func unwritten(t *testing.T, i api.Item, want api.Errno) {
	t.Helper()
	if got, err := cbor.Encode(i); err != want || len(got) != 0 {
		t.Fatalf("Encode(%.300v): %.100x, error %d; not none, error %d", i, got, err, want)
	}
}

// head: an item's kind and its number in just so many bytes behind the first one; 0: in the first.
func head(kind int, n uint64, size int) []byte {
	marks := map[int]int{1: 24, 2: 25, 4: 26, 8: 27}
	if size == 0 {
		return []byte{byte(kind*32) + byte(n)}
	}
	whole := binary.BigEndian.AppendUint64(nil, n)
	return append([]byte{byte(kind*32 + marks[size])}, whole[8-size:]...)
}

// shortHead: a head that is as short as may be.
func shortHead(kind int, n uint64) []byte {
	for _, size := range []int{1, 2, 4} {
		if n < 24 {
			return head(kind, n, 0)
		}
		if n < 1<<(8*size) {
			return head(kind, n, size)
		}
	}
	return head(kind, n, 8)
}

// formOf: the form of an item that may have one, by a way of its own.
func formOf(i api.Item) []byte {
	switch i.Kind {
	case api.CUint:
		return shortHead(0, i.N)
	case api.CNeg:
		return shortHead(1, i.N)
	case api.CBytes:
		return append(shortHead(2, uint64(len(i.B))), i.B...)
	case api.CText:
		return append(shortHead(3, uint64(len(i.B))), i.B...)
	case api.CFalse:
		return []byte{0xf4}
	case api.CTrue:
		return []byte{0xf5}
	case api.CNull:
		return []byte{0xf6}
	}
	form := shortHead(4, uint64(len(i.Kids)))
	if i.Kind == api.CMap {
		form = shortHead(5, uint64(len(i.Kids)/2))
	}
	for _, kid := range i.Kids {
		form = append(form, formOf(kid)...)
	}
	return form
}

// open is an array or a map that is gone through: how many items it still has, or pairs; of a map whether a key is next, and the form of the last key.
type open struct {
	left    uint64
	isMap   bool
	key     bool
	began   int // where the key that is gone through began
	wrong   bool
	lastKey []byte
}

// judge: which error Decode should tell, and how many bytes the item has: by a walk with the open arrays and maps on a pile. Keys are held against one another by their forms: they rise as their bytes do.
func judge(b []byte) (api.Errno, int) {
	if len(b) > api.MaxCbor {
		return api.ErrLong, 0
	}
	var pile []open
	at, items := 0, 0
	for {
		if items++; items > 512 {
			return api.ErrMany, 0
		}
		began, err := at, api.OK
		var kind byte
		var n uint64
		if at, kind, n, err = judgeHead(b, at); err != api.OK {
			return err, 0
		}
		if kind == 2 || kind == 3 {
			if n > uint64(len(b)-at) {
				return api.ErrCbor, 0
			}
			if kind == 3 && !utf8.Valid(b[at:at+int(n)]) {
				return api.ErrText, 0
			}
			at += int(n)
		}
		if last := len(pile) - 1; last >= 0 && pile[last].key {
			pile[last].began, pile[last].wrong = began, kind > 3
		}
		if kind == 4 || kind == 5 {
			if len(pile) == 8 {
				return api.ErrDeep, 0
			}
			pile = append(pile, open{left: n, isMap: kind == 5, key: kind == 5})
		}
		ended := kind != 4 && kind != 5 || n == 0
		if ended && (kind == 4 || kind == 5) {
			pile = pile[:len(pile)-1]
		}
		for ended && len(pile) > 0 {
			top := &pile[len(pile)-1]
			if top.key {
				form := b[top.began:at]
				if top.wrong {
					return api.ErrCbor, 0
				}
				if top.lastKey != nil && bytes.Compare(top.lastKey, form) >= 0 {
					return api.ErrOrder, 0
				}
				top.lastKey, top.key = form, false
				break
			}
			top.left--
			top.key = top.isMap
			if ended = top.left == 0; ended {
				pile = pile[:len(pile)-1]
			}
		}
		if ended && len(pile) == 0 {
			return api.OK, at
		}
	}
}

// judgeHead: a head's end, kind and number.
func judgeHead(b []byte, at int) (int, byte, uint64, api.Errno) {
	if at == len(b) {
		return 0, 0, 0, api.ErrCbor
	}
	kind, low := b[at]/32, b[at]%32
	at++
	if kind == 7 {
		if low < 20 || low > 22 {
			return 0, 0, 0, api.ErrCbor
		}
		return at, kind, 0, api.OK
	}
	n, size := uint64(low), 0
	if low >= 24 {
		size = map[byte]int{24: 1, 25: 2, 26: 4, 27: 8}[low]
		if size == 0 || len(b)-at < size {
			return 0, 0, 0, api.ErrCbor
		}
		var whole [8]byte
		copy(whole[8-size:], b[at:])
		n = binary.BigEndian.Uint64(whole[:])
	}
	if len(shortHead(int(kind), n)) < 1+size {
		return 0, 0, 0, api.ErrShort
	}
	if kind == 6 {
		return 0, 0, 0, api.ErrCbor
	}
	return at + size, kind, n, api.OK
}

// judged: the bytes are read, or refused, as the judge says, and what is read is written as those bytes.
func judged(t *testing.T, b []byte) {
	t.Helper()
	err, size := judge(b)
	if err != api.OK {
		refused(t, b, err)
		return
	}
	item, rest, err := cbor.Decode(b)
	if err != api.OK || !bytes.Equal(rest, b[size:]) || !bytes.Equal(formOf(item), b[:size]) {
		t.Fatalf("Decode(%.100x): %v, %x, error %d; not the first %d bytes, no error", b, item, rest, err, size)
	}
	encodes(t, item, b[:size])
	if _, err := cbor.Whole(b); (err == api.OK) != (size == len(b)) {
		t.Fatalf("Whole(%.100x): error %d; the item has %d bytes of %d", b, err, size, len(b))
	}
}

// ahead is an item that is still to be gone through: within how many others it is, and what is wrong ahead of it.
type ahead struct {
	item  api.Item
	depth int
	wrong api.Errno
}

// judgeItem: which error Encode should tell: by a walk with what is still ahead on a pile.
func judgeItem(i api.Item) api.Errno {
	pile := []ahead{{item: i}}
	for items := 1; len(pile) > 0; items++ {
		next := pile[len(pile)-1]
		pile = pile[:len(pile)-1]
		brackets := next.item.Kind == api.CArray || next.item.Kind == api.CMap
		switch {
		case next.wrong != api.OK:
			return next.wrong
		case items == 513:
			return api.ErrMany
		case next.item.Kind < 1 || next.item.Kind > 9:
			return api.ErrCbor
		case next.item.Kind == api.CText && !utf8.Valid(next.item.B):
			return api.ErrText
		case !brackets:
			continue
		case next.depth == 8:
			return api.ErrDeep
		case next.item.Kind == api.CMap && len(next.item.Kids)%2 == 1:
			return api.ErrCbor
		}
		for at := len(next.item.Kids) - 1; at >= 0; at-- {
			wrong := api.OK
			if next.item.Kind == api.CMap && at%2 == 0 {
				wrong = judgeKey(next.item.Kids, at)
			}
			pile = append(pile, ahead{next.item.Kids[at], next.depth + 1, wrong})
		}
	}
	if len(formOf(i)) > api.MaxCbor {
		return api.ErrLong
	}
	return api.OK
}

func judgeKey(kids []api.Item, at int) api.Errno {
	if kids[at].Kind < 1 || kids[at].Kind > 4 {
		return api.ErrCbor
	}
	if at > 0 && bytes.Compare(formOf(kids[at-2]), formOf(kids[at])) >= 0 {
		return api.ErrOrder
	}
	return api.OK
}

// judgedItem: the item is written, or refused, as the judge says.
func judgedItem(t *testing.T, i api.Item) {
	t.Helper()
	if err := judgeItem(i); err != api.OK {
		unwritten(t, i, err)
		return
	}
	encodes(t, i, formOf(i))
}
