package jsons_test

import (
	"fmt"
	"math/rand"
	"strings"
	"testing"
)

// drawer draws JSON, with a seed so that each run is the same.
type drawer struct{ *rand.Rand }

func (d drawer) of(all ...string) string { return all[d.Intn(len(all))] }

func (d drawer) blanks() string { return d.of("", "", "", "", " ", "\n", "\t \r") }

func (d drawer) text() string {
	var s strings.Builder
	for range d.Intn(4) {
		s.WriteString(d.of("a", "b", `\u0061`, `\n`, `\"`, `\\`, "\u00e9", `\u00E9`, "\U0001f511", `\ud83d\udd11`, " ", "[", "}"))
	}
	return `"` + s.String() + `"`
}

func (d drawer) number() string {
	return d.of("", "-") + d.of("0", "7", "10", "123") + d.of("", "", ".0", ".25") + d.of("", "", "e1", "E-02", "e+3")
}

// value: one with others within it, down to that depth; names may stand twice.
func (d drawer) value(depth int) string {
	kind := d.Intn(6)
	if depth > 0 {
		kind = d.Intn(12)
	}
	switch {
	case kind < 2:
		return d.text()
	case kind < 4:
		return d.number()
	case kind < 6:
		return d.of("true", "false", "null")
	}
	var all []string
	for range d.Intn(5) {
		piece := d.blanks() + d.value(depth-1) + d.blanks()
		if kind < 9 {
			piece = d.blanks() + d.of(d.text(), fmt.Sprintf(`"%d"`, d.Intn(50))) + d.blanks() + ":" + piece
		}
		all = append(all, piece)
	}
	if len(all) == 0 {
		all = append(all, d.blanks())
	}
	if kind < 9 {
		return "{" + strings.Join(all, ",") + "}"
	}
	return "[" + strings.Join(all, ",") + "]"
}

// hurt: a text with few changes.
func (d drawer) hurt(s string) string {
	for range 1 + d.Intn(3) {
		from := d.Intn(len(s) + 1)
		to := min(len(s), from+d.Intn(4))
		if d.Intn(10) == 0 {
			s += s[:from]
		}
		s = s[:from] + d.of("", s[from:to]+s[from:to], "[", "]", "{", "}", ",", ":", `"`, `\`, "0", ".", "e", "-", `"a"`, "\xff", "\x01", "tru", "[[[[[[[[[") + s[to:]
	}
	return s
}

func TestP51DrawnValues(t *testing.T) {
	d := drawer{rand.New(rand.NewSource(5))}
	for range 20000 {
		s := d.blanks() + d.value(1+d.Intn(9)) + d.blanks()
		judged(t, s)
		judged(t, d.hurt(s))
		judged(t, d.hurt(s))
	}
}

// Many small values, so that limits and other errors stand near one another.
func TestP51DrawnValuesNearTheMost(t *testing.T) {
	d := drawer{rand.New(rand.NewSource(6))}
	for range 3000 {
		s := "[" + repeated(d.of("1", "[]", `""`, `{}`), 240+d.Intn(12))
		for range d.Intn(6) {
			s += "," + d.value(9)
		}
		s += d.of("]", "", ",", ",]", "]]")
		judged(t, s)
		judged(t, s[:len(s)-d.Intn(20)])
		judged(t, s[:400]+d.hurt(s[400:]))
	}
}
