package jsons_test

import (
	"strings"
	"testing"

	"latchkey/api"
)

func TestP51NumbersOfEveryForm(t *testing.T) {
	for _, sign := range []string{"", "-"} {
		for _, digits := range []string{"0", "1", "9", "10", "100", "1234567890", strings.Repeat("9", 400)} {
			for _, point := range []string{"", ".0", ".5", ".00", ".0123456789", ".10"} {
				for _, power := range []string{"", "e0", "E0", "e5", "E5", "e+5", "E+5", "e-5", "E-5", "e00", "e05", "E-007", "e1234567890", "E+99999"} {
					s := sign + digits + point + power
					parses(t, s, number(s))
					parses(t, "["+s+","+s+"]", array(1, 2), number(s), number(s))
					parses(t, `{"a": `+s+` }`, object([]string{"a"}, 1), number(s))
				}
			}
		}
	}
}

func TestP51NumbersOfWrongForms(t *testing.T) {
	for _, s := range []string{
		"00", "01", "09", "-00", "-01", "-09", "000", "0123", "00.5", "01.5", "01e1", "-01.5e1", "0x1", "0X1f", "0b1", "0o7", "1_000", "0_1",
		"-", "--1", "+1", "+0", "-+1", "+-1", "- 1", "1-", "1+", "1-1", "1+1", "-a", "-.5", "-e1", "-\"1\"", "-true", "-[1]",
		".", ".5", "0.", "1.", "-1.", "1..5", "1.5.5", "1.e5", "1.E5", "1.-5", "1.+5", "1.x", ".e1",
		"e", "e5", "E5", "1e", "1E", "1e+", "1e-", "1E+", "1E-", "1.5e", "1.5e+", "0e", "1ee5", "1e5e5", "1e+-5", "1e++5", "1e5.5", "1e.5", "1e5+", "1ex", "1e 5",
		"1a", "1f", "1n", "1\"", "1true", "1[", "1{", "1\x00", "1\xff", "1\u0660", "\u0661", "\uff11", "\u00b9", "\u221e", "1\u2212", "\u22121", "Inf", "NaN", "1L", "$1", "1%",
	} {
		refused(t, s, api.ErrJson)
		refused(t, "["+s+"]", api.ErrJson)
		refused(t, `{"a":`+s+`}`, api.ErrJson)
		refused(t, "[1, "+s+" ,2]", api.ErrJson)
	}
}

func TestP51NumbersAreAsTheyAreWritten(t *testing.T) {
	for _, s := range []string{"-0", "-0.0", "0e0", "1.0", "1E5", "1e+05", "100e-2", "1e400", "123456789012345678901234567890", "0.1000"} {
		parses(t, s, number(s))
		parses(t, " "+s+" ", number(s))
	}
}
