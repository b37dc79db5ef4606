package jsons_test

import (
	"strings"
	"testing"

	"latchkey/api"
)

func TestP51Examples(t *testing.T) {
	parses(t, `{"a": [1, "x"]}`, object([]string{"a"}, 1), array(2, 3), number("1"), text("x"))
	refused(t, `{"a":1,"a":2}`, api.ErrTwice)
	refused(t, `[01]`, api.ErrJson)
}

func TestP51ValueOfEveryKind(t *testing.T) {
	parses(t, `{}`, object(nil))
	parses(t, `[]`, array())
	parses(t, `""`, text(""))
	parses(t, `"a"`, text("a"))
	parses(t, `0`, number("0"))
	parses(t, `true`, word(api.JTrue))
	parses(t, `false`, word(api.JFalse))
	parses(t, `null`, word(api.JNull))
	parses(t, `[{},[],"",0,true,false,null]`, array(1, 2, 3, 4, 5, 6, 7),
		object(nil), array(), text(""), number("0"), word(api.JTrue), word(api.JFalse), word(api.JNull))
	parses(t, `{"g":{},"f":[],"e":"x","d":1,"c":true,"b":false,"a":null}`,
		object([]string{"g", "f", "e", "d", "c", "b", "a"}, 1, 2, 3, 4, 5, 6, 7),
		object(nil), array(), text("x"), number("1"), word(api.JTrue), word(api.JFalse), word(api.JNull))
}

// Nodes stand in the order in which their values begin, so that a value's own come ahead of those behind it.
func TestP51NodesOrderAndPlaces(t *testing.T) {
	parses(t, `[1,[2,[3],4],5]`, array(1, 2, 7), number("1"), array(3, 4, 6), number("2"), array(5), number("3"), number("4"), number("5"))
	parses(t, `[[[]],[[]]]`, array(1, 3), array(2), array(), array(4), array())
	parses(t, `{"b":{"d":1,"c":[2,{"e":3}]},"a":{"b":4}}`,
		object([]string{"b", "a"}, 1, 7), object([]string{"d", "c"}, 2, 3), number("1"), array(4, 5), number("2"),
		object([]string{"e"}, 6), number("3"), object([]string{"b"}, 8), number("4"))
}

func TestP51NamesMeanWhatTheirTextsMean(t *testing.T) {
	parses(t, `{"":1,"\u0061":2,"\n":3,"\ud83d\udd11":4,"`+"\u00e9"+`":5," a ":6}`,
		object([]string{"", "a", "\n", "\U0001f511", "\u00e9", " a "}, 1, 2, 3, 4, 5, 6),
		number("1"), number("2"), number("3"), number("4"), number("5"), number("6"))
}

func TestP51NoBytesAndBlanksAlone(t *testing.T) {
	for _, s := range []string{"", " ", "\t", "\n", "\r", " \t\n\r \t\n\r", strings.Repeat(" ", api.MaxJson)} {
		refused(t, s, api.ErrJson)
	}
}

var pieces = []string{"{", `"a"`, ":", "[", "1", ",", `"b"`, ",", "true", "]", ",", `"c"`, ":", "{", "}", ",", `"d"`, ":", "[", "]", "}"}

func TestP51BlanksBetweenPieces(t *testing.T) {
	want := []api.Node{object([]string{"a", "c", "d"}, 1, 5, 6), array(2, 3, 4), number("1"), text("b"), word(api.JTrue), object(nil), array()}
	for _, blank := range []string{"", " ", "\t", "\n", "\r", " \n", "\r\n\t  \t\n\r"} {
		parses(t, blank+strings.Join(pieces, blank)+blank, want...)
		for place := range len(pieces) + 1 {
			parses(t, strings.Join(pieces[:place], "")+blank+strings.Join(pieces[place:], ""), want...)
		}
	}
	for _, s := range []string{"1", "true", "false", "null", `"x"`} {
		judged(t, " \t\r\n"+s+"\n\r\t ")
	}
}

func TestP51OtherSignsAreNoBlanks(t *testing.T) {
	for _, sign := range []string{"\v", "\f", "\b", "\x00", "\x1f", "\x7f", "\u0085", "\u00a0", "\u2028", "\u2029", "\u3000", "\ufeff", "\x85", "\xa0", "\xff", "/", "/**/", "//\n", "#\n", ";", "'"} {
		for place := range len(pieces) + 1 {
			refused(t, strings.Join(pieces[:place], " ")+sign+strings.Join(pieces[place:], " "), api.ErrJson)
		}
		refused(t, sign, api.ErrJson)
		refused(t, "1"+sign, api.ErrJson)
		refused(t, sign+"1", api.ErrJson)
	}
}

// A blank inside a piece: in a word or a number it ends that; in a text only 20 may stand.
func TestP51BlanksInsidePieces(t *testing.T) {
	for _, blank := range []string{" ", "\t", "\n", "\r"} {
		for _, piece := range []string{"true", "false", "null", "-1", "12", "1.5", "1e5", "1e+5", "-0.1E-10"} {
			for place := 1; place < len(piece); place++ {
				refused(t, piece[:place]+blank+piece[place:], api.ErrJson)
				refused(t, "["+piece[:place]+blank+piece[place:]+"]", api.ErrJson)
			}
		}
	}
	parses(t, `" a b "`, text(" a b "))
	for _, blank := range []string{"\t", "\n", "\r"} {
		refused(t, `"a`+blank+`b"`, api.ErrJson)
		refused(t, `{"a`+blank+`b":1}`, api.ErrJson)
	}
}

func TestP51WrongWords(t *testing.T) {
	for _, s := range []string{"t", "tr", "tru", "f", "fals", "n", "nul", "True", "TRUE", "False", "Null", "NULL", "truee", "truefalse", "nulll", "nil", "undefined", "NaN", "Infinity", "-Infinity", "yes", "x", "a", "'a'", "`a`", "u0061", "\\u0061", "\\\"a\\\""} {
		refused(t, s, api.ErrJson)
		refused(t, "["+s+"]", api.ErrJson)
		refused(t, `{"a":`+s+`}`, api.ErrJson)
		refused(t, `{`+s+`:1}`, api.ErrJson)
	}
}

func TestP51WrongPlacesOfBracketsAndCommas(t *testing.T) {
	for _, s := range []string{
		"[,]", "[1,]", "[,1]", "[1,,2]", "[1 2]", "[1:2]", "[1;2]", `["a":1]`, "[1}", "[}", "[1]]", "[]]", "[][]", "[],[]", "]", "}", ",", ":",
		"{,}", `{"a"}`, `{"a":}`, `{"a":1,}`, `{,"a":1}`, `{"a":1,,"b":2}`, `{"a":1 "b":2}`, `{"a" 1}`, `{"a"::1}`, `{"a",1}`, `{"a"=1}`, `{"a":1]`, `{]`, `{"a":1}}`, `{}}`, `{}{}`, `{:1}`, `{"a":1:2}`,
		"{1:2}", "{true:1}", "{null:1}", "{[]:1}", "{{}:1}", "{1}", "{[]}", "{{}}", "{a:1}", "{'a':1}",
		"1,2", "1 2", "1,", ",1", `"a" "b"`, `"a":1`, "true false", "(1)", "<1>",
	} {
		refused(t, s, api.ErrJson)
		refused(t, "["+s+",", api.ErrJson)
	}
}

const whole = ` {"a":[1,"x\u0041\ud83d\udd11",true,{"b":null,"c":[-1.5e+3,false,[]]}],"d":"` + "\u00e9\U0001f511" + `"} `

func TestP51BytesThatEndTooSoon(t *testing.T) {
	judged(t, whole)
	for end := range len(whole) - 1 {
		refused(t, whole[:end], api.ErrJson)
	}
}

func TestP51BytesThatGoOnBehindTheValue(t *testing.T) {
	for _, s := range []string{"{}", "[]", `"a"`, "1", "-0.5e1", "true", "false", "null", strings.TrimSpace(whole)} {
		for _, more := range []string{"{", "}", "[", "]", ",", ":", `"`, `"a"`, "x", "true", "null", "\x00", "\xff", "[[[[[[[[["} {
			refused(t, s+more, api.ErrJson)
			refused(t, s+" \n"+more, api.ErrJson)
			refused(t, s+more+" ", api.ErrJson)
		}
		refused(t, s+" 1", api.ErrJson)
	}
}

// Each byte taken away, doubled, or replaced by each other one.
func TestP51EveryByteInEachPlace(t *testing.T) {
	for place := range len(whole) {
		judged(t, whole[:place]+whole[place+1:])
		for value := range 256 {
			one := string([]byte{byte(value)})
			judged(t, whole[:place]+one+whole[place+1:])
			judged(t, whole[:place]+one+whole[place:])
		}
	}
}

// Every text of few signs, of those that matter.
func TestP51EveryShortText(t *testing.T) {
	const signs = `[]{}",:1-.e` + "0 \\u"
	var grow func(s string, more int)
	grow = func(s string, more int) {
		judged(t, s)
		for i := 0; i < len(signs) && more > 0; i++ {
			grow(s+signs[i:i+1], more-1)
		}
	}
	grow("", 4)
	for _, begun := range []string{`{"":`, `{"":1,"`, `[1,`, `"\u00`, `{"a":[`, `-1.`, `[0`, `1e`, `[""`} {
		grow(begun, 3)
	}
}
