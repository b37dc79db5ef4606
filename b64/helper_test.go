package b64_test

import (
	"bytes"
	"encoding/base64"
	"math/rand"
	"strings"
	"testing"

	"latchkey/api"
	"latchkey/b64"
)

// signs: the 64, each at the place of what it stands for.
const signs = "ABCDEFGHIJKLMNOPQRSTUVWXYZabcdefghijklmnopqrstuvwxyz0123456789-_"

var library = base64.RawURLEncoding.Strict()

// draw: so many bytes, drawn with a seed so that each run is the same.
func draw(size int) []byte {
	b := make([]byte, size)
	rand.New(rand.NewSource(int64(size))).Read(b)
	return b
}

// drawText: so many of the 64 signs, drawn with a seed.
func drawText(size int) string {
	b := draw(size)
	for i := range b {
		b[i] = signs[b[i]%64]
	}
	return string(b)
}

// expected: the bytes that the library reads, and whether there are any; it goes over ends of lines, which are none of the 64 signs.
func expected(s string) ([]byte, bool) {
	b, err := library.DecodeString(s)
	return b, err == nil && !strings.ContainsAny(s, "\r\n")
}

// decodes: the text is read as just those bytes.
func decodes(t *testing.T, s string, want []byte) {
	t.Helper()
	got, err := b64.Decode(s)
	if err != api.OK || !bytes.Equal(got, want) {
		t.Fatalf("Decode(%q): %x, error %d; not %x, no error", s, got, err, want)
	}
}

// refused: the text is refused with just that error, and no bytes stand beside it.
func refused(t *testing.T, s string, want api.Errno) {
	t.Helper()
	got, err := b64.Decode(s)
	if err != want || len(got) != 0 {
		t.Fatalf("Decode(%.40q), %d bytes: %x, error %d; not none, error %d", s, len(s), got, err, want)
	}
}

// judged: the text is read, or refused with ErrBase, as the library does.
func judged(t *testing.T, s string) {
	t.Helper()
	if want, ok := expected(s); ok {
		decodes(t, s, want)
	} else {
		refused(t, s, api.ErrBase)
	}
}

// thereAndBack: the bytes' text is the library's, and is read as the bytes.
func thereAndBack(t *testing.T, b []byte) {
	t.Helper()
	s := b64.Encode(b)
	if want := library.EncodeToString(b); s != want {
		t.Fatalf("Encode of %d bytes (%.20x): %.40q, not %.40q", len(b), b, s, want)
	}
	if len(s) > api.MaxBase {
		refused(t, s, api.ErrLong)
		return
	}
	decodes(t, s, b)
}
