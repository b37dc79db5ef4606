package b64_test

import (
	"strings"
	"testing"

	"latchkey/api"
	"latchkey/b64"
)

func TestP41DecodeExamples(t *testing.T) {
	decodes(t, "-_8", []byte{0xfb, 0xff})
	decodes(t, "AA", []byte{0})
	for _, s := range []string{"AB", "A", "A=", "+A"} {
		refused(t, s, api.ErrBase)
	}
}

func TestP41DecodeOfTheEmptyText(t *testing.T) {
	decodes(t, "", nil)
}

// Every byte, the signs among them, in each place of texts of every length.
func TestP41DecodeOfEveryByteInEachPlace(t *testing.T) {
	for size := 1; size <= 12; size++ {
		for _, text := range []string{strings.Repeat("A", size), drawText(size)} {
			for place := range size {
				for value := range 256 {
					s := []byte(text)
					s[place] = byte(value)
					judged(t, string(s))
				}
			}
		}
	}
}

// Every text of two bytes: those that are one rune, and those that are no right UTF-8, among them.
func TestP41DecodeOfEveryTwoBytes(t *testing.T) {
	for one := range 256 {
		for two := range 256 {
			pair := string([]byte{byte(one), byte(two)})
			judged(t, pair)
			judged(t, "AA"+pair)
			judged(t, pair+"AA")
		}
	}
}

// Runes of many bytes are no signs, even if their last bits are a sign's, or they look like one.
func TestP41DecodeOfOtherRunes(t *testing.T) {
	for _, other := range []string{
		"\u00e9", "\u0141", "\u0161", "\u0130", "\u2010", "\u2013", "\u203f", "\uff21", "\uff41", "\uff10", "\uff3f", "\uff0d",
		"\ufeff", "\ufffd", "\u2028", "\U00010041", "\U00010061", "\U0010ffff", "\u0000",
		"\x80", "\xff", "\xc3", "\xc1\x81", "\xe0\x81\x81", "\xed\xa0\x80", "\xf4\x90\x80\x80", "\xf0\x9f\x98",
	} {
		for ahead := range 9 {
			for behind := range 9 {
				refused(t, strings.Repeat("A", ahead)+other+strings.Repeat("A", behind), api.ErrBase)
			}
		}
	}
}

// Each sign, moved by what a byte or a word of 16 bits can't hold, is none any more.
func TestP41DecodeOfRunesWithASignsLastBits(t *testing.T) {
	for _, sign := range signs {
		for _, more := range []rune{0x100, 0x200, 0x1000, 0x10000, 0x100000} {
			s := string(sign + more)
			refused(t, s+"A", api.ErrBase)
			refused(t, s+"AA", api.ErrBase)
			refused(t, "AAA"+s, api.ErrBase)
		}
	}
}

func TestP41DecodeOfSignsOfOtherAlphabets(t *testing.T) {
	for _, s := range []string{
		"AA==", "AAA=", "AAAA====", "=", "==", "===", "====", "A===", "AA=A", "=AAA", "-_8=",
		"+A", "/A", "+/8", "A.AA", "AA,A", "A~AA", "AAA*",
		" AA", "AA ", "AA\n", "\nAA", "A\nA", "A\r\nA", "AA\r\n", "\n", "\r", "\t", "AAAA\n", "AAAA\n\n\n\n", "AA\x00", "AAA\x00",
	} {
		refused(t, s, api.ErrBase)
	}
}

func TestP41DecodeOfLengthsOneAboveFour(t *testing.T) {
	for size := 1; size <= 401; size += 4 {
		refused(t, strings.Repeat("A", size), api.ErrBase)
		refused(t, strings.Repeat("_", size), api.ErrBase)
		refused(t, drawText(size), api.ErrBase)
	}
	for value := range 64 {
		refused(t, signs[value:value+1], api.ErrBase)
		refused(t, "AAAA"+signs[value:value+1], api.ErrBase)
	}
	refused(t, strings.Repeat("A", api.MaxBase-3), api.ErrBase)
}

// Behind the last four signs: two, of which the second one's last four bits are filling.
func TestP41DecodeOfFillingBehindTwo(t *testing.T) {
	for _, ahead := range []string{"", "AAAA", drawText(40)} {
		read, _ := expected(ahead)
		for first := range 64 {
			for second := range 64 {
				s := ahead + string(signs[first]) + string(signs[second])
				if second%16 != 0 {
					refused(t, s, api.ErrBase)
					continue
				}
				decodes(t, s, append(read[:len(read):len(read)], byte(first<<2|second>>4)))
			}
		}
	}
}

// Behind the last four signs: three, of which the third one's last two bits are filling.
func TestP41DecodeOfFillingBehindThree(t *testing.T) {
	for _, ahead := range []string{"", "AAAA", drawText(40)} {
		read, _ := expected(ahead)
		for second := range 64 {
			for third := range 64 {
				s := ahead + "k" + string(signs[second]) + string(signs[third])
				if third%4 != 0 {
					refused(t, s, api.ErrBase)
					continue
				}
				bits := 36<<10 | second<<4 | third>>2
				decodes(t, s, append(read[:len(read):len(read)], byte(bits>>8), byte(bits)))
			}
		}
	}
}

func TestP41DecodeOfTextsOfEveryLength(t *testing.T) {
	for size := range 300 {
		judged(t, drawText(size))
		if s := drawText(size); size%4 != 1 && size > 0 {
			judged(t, s[:size-1]+"A")
		}
	}
}

// What is read is just what is written of it.
func TestP41DecodeIsEncodesBack(t *testing.T) {
	for size := range 300 {
		s := drawText(size)
		if b, err := b64.Decode(s); err == api.OK && b64.Encode(b) != s {
			t.Errorf("%q is read as %x, which is written %q", s, b, b64.Encode(b))
		}
	}
}

func TestP41DecodeOfTheLongestText(t *testing.T) {
	for _, size := range []int{api.MaxBase - 4, api.MaxBase - 2, api.MaxBase - 1, api.MaxBase} {
		decodes(t, strings.Repeat("A", size), make([]byte, size*6/8))
	}
	judged(t, drawText(api.MaxBase))
	for _, s := range []string{
		strings.Repeat("=", api.MaxBase),
		strings.Repeat("\u00e9", api.MaxBase/2),
		strings.Repeat("\xff", api.MaxBase),
		strings.Repeat("A", api.MaxBase-1) + "=",
		"+" + strings.Repeat("A", api.MaxBase-1),
		strings.Repeat("A", api.MaxBase-2) + "\n",
		strings.Repeat("A", api.MaxBase-3) + "B",
	} {
		refused(t, s, api.ErrBase)
	}
}

// A text that is too long is refused for that, whatever it holds; its bytes count, not its runes.
func TestP41DecodeOfTooLongATextComesFirst(t *testing.T) {
	for size := api.MaxBase + 1; size <= api.MaxBase+9; size++ {
		for _, sign := range []string{"A", "_", "=", "\n", "\x00", "\xff"} {
			refused(t, strings.Repeat(sign, size), api.ErrLong)
		}
		refused(t, "+"+strings.Repeat("A", size-1), api.ErrLong)
		refused(t, strings.Repeat("A", size-1)+"B", api.ErrLong)
		refused(t, drawText(size), api.ErrLong)
	}
	refused(t, strings.Repeat("\u00e9", api.MaxBase/2)+"A", api.ErrLong)
	refused(t, strings.Repeat("\U0001f511", api.MaxBase/4)+"A", api.ErrLong)
	refused(t, strings.Repeat("A", 1<<20), api.ErrLong)
}
