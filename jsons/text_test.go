package jsons_test

import (
	"fmt"
	"strings"
	"testing"
	"unicode/utf8"

	"latchkey/api"
)

// inPlaces: the text means that, alone, among others and as a name.
func inPlaces(t *testing.T, written, means string) {
	t.Helper()
	parses(t, `"`+written+`"`, text(means))
	parses(t, `["x",  "k`+written+`k"]`, array(1, 2), text("x"), text("k"+means+"k"))
	parses(t, `{"`+written+`":0}`, object([]string{means}, 1), number("0"))
}

// inNoPlace: the text is refused, alone, among others and as a name.
func inNoPlace(t *testing.T, written string) {
	t.Helper()
	refused(t, `"`+written+`"`, api.ErrJson)
	refused(t, `["x",  "k`+written+`k"]`, api.ErrJson)
	refused(t, `{"`+written+`":0}`, api.ErrJson)
	refused(t, `{"a":0,"k`+written+`":0}`, api.ErrJson)
}

func TestP51ShortEscapes(t *testing.T) {
	inPlaces(t, `\"`, "\x22")
	inPlaces(t, `\\`, "\x5c")
	inPlaces(t, `\/`, "\x2f")
	inPlaces(t, `\b`, "\x08")
	inPlaces(t, `\f`, "\x0c")
	inPlaces(t, `\n`, "\x0a")
	inPlaces(t, `\r`, "\x0d")
	inPlaces(t, `\t`, "\x09")
	inPlaces(t, `\"\\\/\b\f\n\r\t`, "\x22\x5c\x2f\x08\x0c\x0a\x0d\x09")
	inPlaces(t, `\\n`, `\n`)
	inPlaces(t, `\\u0041`, `\u0041`)
	inPlaces(t, `\\\"`, `\"`)
}

func TestP51OtherEscapesAreNone(t *testing.T) {
	for value := range 256 {
		one := string([]byte{byte(value)})
		if !strings.Contains(`"\/bfnrtu`, one) {
			inNoPlace(t, `\`+one)
		}
	}
	for _, written := range []string{`\U0041`, `\x41`, `\101`, `\0`, `\a`, `\v`, `\e`, `\'`, `\ `, "\\\n", "\\\u00e9", `\u{41}`} {
		inNoPlace(t, written)
	}
	for _, s := range []string{`"\"`, `"\`, `"\\\"`, `"a\`, `["\"]`} {
		refused(t, s, api.ErrJson)
	}
}

// Every unit of UTF-16, with small and with great digits; halves alone are none.
func TestP51EscapedUnits(t *testing.T) {
	for unit := range 0x10000 {
		small, great := fmt.Sprintf(`\u%04x`, unit), fmt.Sprintf(`\u%04X`, unit)
		if unit >= 0xd800 && unit < 0xe000 {
			refused(t, `"`+small+`"`, api.ErrJson)
			refused(t, `"`+great+`"`, api.ErrJson)
			continue
		}
		parses(t, `"`+small+`"`, text(string(rune(unit))))
		parses(t, `"`+great+`"`, text(string(rune(unit))))
	}
	inPlaces(t, `\u0000`, "\x00")
	inPlaces(t, `\u0022`, `"`)
	inPlaces(t, `\u005c`, `\`)
	inPlaces(t, `\u005Cn`, `\n`)
	inPlaces(t, `\u00e9\u00E9\u20aC`, "\u00e9\u00e9\u20ac")
	inPlaces(t, `\u00410`, "A0")
	inPlaces(t, `\ufffd`, "\ufffd")
	inPlaces(t, `\uFFFF`, "\uffff")
	inPlaces(t, `\ud7ff\ue000`, "\ud7ff\ue000")
}

func TestP51EscapedUnitsOfTooFewOrOtherDigits(t *testing.T) {
	for place := range 4 {
		for value := range 256 {
			digits := []byte("00aF")
			digits[place] = byte(value)
			if value < 0x80 && strings.ContainsRune("0123456789abcdefABCDEF", rune(value)) {
				judged(t, `"\u`+string(digits)+`"`)
				continue
			}
			refused(t, `"\u`+string(digits)+`"`, api.ErrJson)
		}
	}
	for _, written := range []string{`\u`, `\u0`, `\u00`, `\u004`, `\u 041`, `\u+041`, `\u-041`, `\u0x41`, `\u004g`, `\u00\u0041`, `\u004\"`, "\\u004\u0661"} {
		inNoPlace(t, written)
	}
}

func TestP51HalvesThatAreOneSign(t *testing.T) {
	inPlaces(t, `\ud83d\udd11`, "\U0001f511")
	inPlaces(t, `\uD83D\uDD11`, "\U0001f511")
	inPlaces(t, `\ud800\udc00`, "\U00010000")
	inPlaces(t, `\ud800\udfff`, "\U000103ff")
	inPlaces(t, `\ud801\udc00`, "\U00010400")
	inPlaces(t, `\udbff\udc00`, "\U0010fc00")
	inPlaces(t, `\udbff\udfff`, "\U0010ffff")
	inPlaces(t, `a\uD83d\uDd11\ud83D\udD12b`, "a\U0001f511\U0001f512b")
	for sign := rune(0x10000); sign <= utf8.MaxRune; sign += 251 {
		high, low := 0xd800+(sign-0x10000)/0x400, 0xdc00+(sign-0x10000)%0x400
		parses(t, fmt.Sprintf(`"\u%04x\u%04X"`, high, low), text(string(sign)))
	}
}

func TestP51HalvesAlone(t *testing.T) {
	for _, written := range []string{
		`\ud83d`, `\udd11`, `\ud800`, `\udbff`, `\udc00`, `\udfff`,
		`\ud83dx`, `\ud83dudd11`, `\ud83d\n`, `\ud83d\\udd11`, `\ud83d \udd11`, `\ud83d\u0041`, `\ud83d\ue000`, `\ud83d\udbff`, `\ud83d\ud83d`, `\ud83d\ud83d\udd11`,
		`\udd11\ud83d`, `\udd11\udd11`, `\udc00\ud800`, `\ud83d\udd11\udd11`, `\ud83d\udd11\ud83d`, `\u0041\udd11`,
		`\ud83d\u`, `\ud83d\ud`, `\ud83d\udd1`, `\ud83d\udd1g`, `\ud83d\`, `\ud83d\Udd11`, `\ud83d` + "\U0001f511", `\ud83d` + "\xed\xb4\x91", "\xed\xa0\xbd" + `\udd11`,
	} {
		inNoPlace(t, written)
	}
	for _, high := range []int{0xd7ff, 0xd800, 0xd83d, 0xdbff, 0xdc00, 0xdfff, 0xe000} {
		for low := 0xd700; low < 0xe100; low++ {
			judged(t, fmt.Sprintf(`"\u%04x\u%04x"`, high, low))
		}
	}
}

func TestP51SignsBelowTwenty(t *testing.T) {
	for value := range 0x20 {
		inNoPlace(t, string(rune(value)))
	}
	for value := rune(0x20); value < 0x100; value++ {
		if value != '"' && value != '\\' {
			inPlaces(t, string(value), string(value))
		}
	}
}

// A text's signs of every number of bytes stand for themselves, those that mean nothing too.
func TestP51SignsOfManyBytes(t *testing.T) {
	for _, sign := range []rune{0x7f, 0x80, 0x85, 0xa0, 0xe9, 0x7ff, 0x800, 0x2028, 0x2029, 0xd7ff, 0xe000, 0xfdd0, 0xfeff, 0xfffd, 0xfffe, 0xffff, 0x10000, 0x1f511, 0x1ffff, 0x10ffff} {
		inPlaces(t, string(sign), string(sign))
		inPlaces(t, string(sign)+`\n`+string(sign), string(sign)+"\n"+string(sign))
	}
	parses(t, `"e`+"\u0301"+`"`, text("e\u0301"))
}

func TestP51BytesThatAreNoRightUtf8(t *testing.T) {
	for _, written := range []string{
		"\x80", "\xbf", "\xc0\x80", "\xc1\x81", "\xc1\xbf", "\xc3", "\xc3(", "\xe0\x80\x80", "\xe0\x9f\xbf", "\xe2\x82", "\xe2\x82x", "\xed\xa0\x80", "\xed\xbf\xbf", "\xed\xa0\xbd\xed\xb4\x91",
		"\xf0\x80\x80\x80", "\xf0\x8f\xbf\xbf", "\xf0\x9f\x94", "\xf4\x90\x80\x80", "\xf5\x80\x80\x80", "\xf8\x88\x80\x80\x80", "\xfe", "\xff", "\xfe\xff", "\u00e9\x80", "\xc3\u00e9", `\u00c3` + "\xa9", "\xc3" + `\u00a9`, "\xc3" + `\n`,
		"\xef\xbf", "\ufffd\xff",
	} {
		inNoPlace(t, written)
	}
	for one := range 256 {
		for two := range 256 {
			judged(t, `"`+string([]byte{byte(one), byte(two)})+`"`)
		}
	}
}

func TestP51TextsThatDoNotEnd(t *testing.T) {
	for _, s := range []string{`"`, `"a`, `"\"`, `"\u`, `"\u004`, `"\u0041`, `"\ud83d`, `"\ud83d\`, `"\ud83d\u`, `"\ud83d\udd11`, `a"`, `"a""`, `""a`, `"""`, "\"\xc3", "\"\u00e9", `{"`, `{"a`, `["a`, `["a]`, `{"a:1}`} {
		refused(t, s, api.ErrJson)
	}
}
