package jsons_test

import (
	"fmt"
	"strings"
	"testing"

	"latchkey/api"
)

func TestP51TheMostBytes(t *testing.T) {
	for _, size := range []int{api.MaxJson - 1, api.MaxJson} {
		parses(t, "1"+strings.Repeat(" ", size-1), number("1"))
		parses(t, strings.Repeat("\n", size-2)+"[]", array())
		parses(t, `"`+strings.Repeat("a", size-2)+`"`, text(strings.Repeat("a", size-2)))
		parses(t, strings.Repeat("9", size), number(strings.Repeat("9", size)))
		name := strings.Repeat("b", size-6)
		parses(t, `{"`+name+`":1}`, object([]string{name}, 1), number("1"))
		refused(t, strings.Repeat("x", size), api.ErrJson)
		refused(t, `"`+strings.Repeat("a", size-1), api.ErrJson)
		refused(t, `[`+strings.Repeat(" ", size-1), api.ErrJson)
	}
}

// Too many bytes are refused for that, whatever they hold.
func TestP51TooManyBytesComeFirst(t *testing.T) {
	for _, size := range []int{api.MaxJson + 1, api.MaxJson + 2, 2 * api.MaxJson, 1 << 20} {
		refused(t, "1"+strings.Repeat(" ", size-1), api.ErrLong)
		for _, sign := range []string{" ", "x", "[", "{", `"`, "1", ",", "\x00", "\xff"} {
			refused(t, strings.Repeat(sign, size), api.ErrLong)
		}
		for _, begun := range []string{"[[[[[[[[[", `{"a":1,"a":2}`, "[01]", "x", "]", `"` + "\xff", "[" + repeated("1", 300) + "]"} {
			refused(t, begun+strings.Repeat(" ", size-len(begun)), api.ErrLong)
		}
		refused(t, `"`+strings.Repeat("a", size-2)+`"`, api.ErrLong)
	}
}

// members: so many of an object, each with another name.
func members(value string, count int) string {
	var all []string
	for i := range count {
		all = append(all, fmt.Sprintf(`"%x":%s`, i, value))
	}
	return strings.Join(all, ",")
}

func TestP51TheMostValues(t *testing.T) {
	most := api.MaxNodes - 1
	for _, s := range []string{
		"[" + repeated("1", most) + "]",
		"[" + repeated(`""`, most) + "]",
		"[" + repeated("{}", most) + "]",
		"[" + repeated("[]", most) + "]",
		"[" + repeated("null", most) + "] ",
		"[" + repeated("[1]", most/2) + ",true]",
		"[" + repeated("1", most-1) + ",[]]",
		"[" + repeated("1", most-1) + ",[ \n]]",
		"[" + repeated("1", most-1) + ",{ }]",
		"[" + repeated(`{"a":1}`, most/2) + ",false]",
		"{" + members("1", most) + "}",
		"{" + members("{}", most) + "}",
		"{" + members(`{"x":[]}`, most/2) + "}",
		"[[[[[[[[" + repeated("1", api.MaxNodes-8) + "]]]]]]]]",
	} {
		parsesFull(t, s)
	}
}

// parsesFull: the bytes are read, as all the nodes that there may be, or one less.
func parsesFull(t *testing.T, s string) {
	t.Helper()
	want, err := library(s)
	if err != nil || len(want) > api.MaxNodes || len(want) < api.MaxNodes-1 {
		t.Fatalf("%d nodes, %v", len(want), err)
	}
	parses(t, s, want...)
}

func TestP51OneValueTooMany(t *testing.T) {
	most := api.MaxNodes - 1
	full := "[" + repeated("1", most)
	for _, value := range []string{"1", `"a"`, "true", "false", "null", "[]", "{}", "[1]", `{"a":1}`, "-0.5e1"} {
		refused(t, full+","+value+"]", api.ErrMany)
		refused(t, full+" , \n"+value+"]", api.ErrMany)
		refused(t, "{"+members("1", most)+`,"x":`+value+"}", api.ErrMany)
		refused(t, "["+repeated("1", most-1)+",["+value+"]]", api.ErrMany)
		refused(t, "["+repeated("1", most-1)+",{\"a\":"+value+"}]", api.ErrMany)
		refused(t, "["+repeated(value, api.MaxNodes+20)+"]", api.ErrMany)
	}
}

// Where a 257th value should stand, what stands there in its place isn't looked at any more.
func TestP51OneValueTooManyComesAheadOfWhatStandsThere(t *testing.T) {
	most := api.MaxNodes - 1
	for _, place := range []string{
		"[" + repeated("1", most) + ",",
		"{" + members("1", most) + `,"x":`,
		"[" + repeated("1", most-1) + `,{"a" : `,
		"[" + repeated("1", most-1) + ",[",
		"[[[[[[[[" + repeated("1", api.MaxNodes-8) + ",",
	} {
		for _, there := range []string{"", " ", "x", "01", `"`, `"\x"`, "\"\xff\"", "\xff", ",", ":", "}", "[", "{", "[[[[[[[[[", "tru", "1.", "-"} {
			refused(t, place+there, api.ErrMany)
			judged(t, place+there)
		}
	}
	refused(t, "["+repeated("1", most)+",]", api.ErrMany)
	refused(t, "{"+members("1", most)+`,"x":]`, api.ErrMany)
}

// Ahead of the place of a 257th value, the other errors come.
func TestP51OtherErrorsAheadOfOneValueTooMany(t *testing.T) {
	most := api.MaxNodes - 1
	ones := repeated("1", most)
	for _, s := range []string{
		"[" + ones, "[" + ones + " 1]", "[" + ones + "}", "[" + ones + ":1", "[" + ones + "]]", "[" + ones + "],1", "[" + repeated("1", most-1) + ",01,1]", "[" + repeated("1", most-1) + ",x,1]",
		"{" + members("1", most) + ",1", "{" + members("1", most) + ",}", "{" + members("1", most) + `,"x"1`, "{" + members("1", most) + `,"x`, "{" + members("1", most) + `,"x"`, "{" + members("1", most) + ",x:1",
		"[" + repeated("1", most-1) + ",{x", "[" + repeated("1", most-1) + ",{",
	} {
		refused(t, s, api.ErrJson)
	}
	refused(t, "{"+members("1", most)+`,"0":1}`, api.ErrTwice)
	refused(t, "{"+members("1", most)+`,"0"`, api.ErrTwice)
	refused(t, "["+repeated("1", most-10)+",[[[[[[[[1,1,1", api.ErrDeep)
}

// nested: so many brackets of the kinds that bits say, with the innermost holding that.
func nested(count, bits int, inner string) string {
	for i := range count {
		if bits>>i&1 == 0 {
			inner = "[" + inner + "]"
		} else {
			inner = `{"a":` + inner + "}"
		}
	}
	return inner
}

func TestP51TheMostBracketsWithinOneAnother(t *testing.T) {
	for bits := range 1 << api.MaxNest {
		for _, inner := range []string{"1", `"["`, "null"} {
			judged(t, nested(api.MaxNest-1, bits, inner))
			s := nested(api.MaxNest, bits, inner)
			want, err := library(s)
			if err != nil || len(want) != api.MaxNest+1 {
				t.Fatal(s, err)
			}
			parses(t, s, want...)
		}
		for _, inner := range []string{"[]", "{}", "[1]", "[", "{", "[x", "[]x", "{1", "[\xff"} {
			refused(t, nested(api.MaxNest, bits, inner), api.ErrDeep)
			judged(t, nested(api.MaxNest-1, bits, inner))
		}
	}
	parses(t, "[[[[[[[[]]]]]]]]", array(1), array(2), array(3), array(4), array(5), array(6), array(7), array())
	refused(t, "[[[[[[[[[", api.ErrDeep)
	refused(t, "[[[[[[[[{", api.ErrDeep)
	refused(t, "[[[[[[[[ \n[", api.ErrDeep)
	refused(t, `{"a":{"a":{"a":{"a":{"a":{"a":{"a":{"a":{`, api.ErrDeep)
}

// Brackets that are closed don't count: many beside one another, at every depth.
func TestP51BracketsBesideOneAnother(t *testing.T) {
	for depth := range api.MaxNest {
		judged(t, nested(depth, 0x55, "["+repeated("[]", 5)+"]"))
		judged(t, nested(depth, 0x33, "["+repeated(`{"a":[]}`, 5)+"]"))
	}
	eight := nested(api.MaxNest-1, 0x5a, "1")
	parsed := "[" + repeated(eight, 20) + "]"
	want, err := library(parsed)
	if err != nil {
		t.Fatal(err)
	}
	parses(t, parsed, want...)
	refused(t, "["+repeated(eight, 20)+","+nested(api.MaxNest, 0, "1")+"]", api.ErrDeep)
	refused(t, `[[[[[[[["[[[[",[`, api.ErrDeep)
	parses(t, `"[[[[[[[[[["`, text("[[[[[[[[[["))
}

func TestP51WhatComesAheadOfABracketTooDeep(t *testing.T) {
	for _, s := range []string{"[[[[[[[[x[", "[[[[[[[[1[", "[[[[[[[[1 [", "[[[[[[[[,[", "[[[[[[[]][", "x[[[[[[[[[", "[[[[[[[[}[", "1[[[[[[[[[", "[[[[[[[[01,["} {
		refused(t, s, api.ErrJson)
	}
	refused(t, `[[[[[[[{"a":1,"a":[[[`, api.ErrTwice)
	refused(t, `[[[[[[[{"a":1,"b":[,"a"`, api.ErrDeep)
	refused(t, `[[[[[[[[1,[`, api.ErrDeep)
}

func TestP51NamesThatStandTwice(t *testing.T) {
	for _, names := range [][2]string{
		{"a", "a"}, {"", ""}, {"a", `\u0061`}, {`\u0061`, "a"}, {`\u006A`, `\u006a`}, {"/", `\/`}, {`\/`, `\u002f`}, {`\n`, `\u000a`}, {`\b`, `\u0008`}, {`\\`, `\u005C`}, {`\"`, `\u0022`}, {`\t`, `\u0009`}, {`\f`, `\u000c`}, {`\r`, `\u000D`},
		{"\u00e9", `\u00e9`}, {"\U0001f511", `\ud83d\udd11`}, {`\uD83D\uDD11`, `\ud83d\udd11`}, {"ab", `a\u0062`}, {`\u0000`, `\u0000`}, {"\ufffd", `\ufffd`},
	} {
		for _, between := range []string{"", `"k":[1,{"a":2}],`, `"k":{},"l":"x",`} {
			start := `{"` + names[0] + `":1,` + between + `"` + names[1] + `"`
			for _, behind := range []string{":2}", "", "}", "x", " :", ":[01]}", ",", `:2,"z":3}`, "\xff", ":[[[[[[[[[["} {
				refused(t, start+behind, api.ErrTwice)
				refused(t, `[{"q":`+start+behind, api.ErrTwice)
			}
		}
	}
}

func TestP51NamesThatAreNotTheSame(t *testing.T) {
	for _, names := range [][2]string{
		{"a", "A"}, {"a", "b"}, {"", " "}, {"a", "a "}, {"a", "aa"}, {"a", `\u0041`}, {"\u00e9", "e\u0301"}, {"a", `\\u0061`}, {"K", "\u212a"}, {"a", `a\u0000`}, {`\n`, "n"}, {"1", "01"},
	} {
		s := `{"` + names[0] + `":1,"` + names[1] + `":2}`
		want, err := library(s)
		if err != nil {
			t.Fatal(s, err)
		}
		parses(t, s, want...)
	}
}

// Each object has names of its own; values and what is within them don't count.
func TestP51NamesInTwoObjects(t *testing.T) {
	parses(t, `[{"a":1},{"a":2}]`, array(1, 3), object([]string{"a"}, 2), number("1"), object([]string{"a"}, 4), number("2"))
	parses(t, `{"a":{"a":{"a":"a"}}}`, object([]string{"a"}, 1), object([]string{"a"}, 2), object([]string{"a"}, 3), text("a"))
	parses(t, `{"a":"b","b":"a"}`, object([]string{"a", "b"}, 1, 2), text("b"), text("a"))
	parses(t, `{"a":{"b":1},"b":2}`, object([]string{"a", "b"}, 1, 3), object([]string{"b"}, 2), number("1"), number("2"))
	parses(t, `{"a":["a","a"]}`, object([]string{"a"}, 1), array(2, 3), text("a"), text("a"))
	refused(t, `{"a":{"b":1},"a":2}`, api.ErrTwice)
	refused(t, `{"a":{"b":1,"b":2}}`, api.ErrTwice)
	refused(t, `{"b":{"a":1},"a":{"b":1},"b":1}`, api.ErrTwice)
}

func TestP51WhatComesAheadOfANameTwice(t *testing.T) {
	for _, s := range []string{`{"a":01,"a":2}`, `{"a":1 "a":2}`, `{"a":1,,"a":2}`, `{"a"1,"a":2}`, `{"a":,"a":2}`, `{"a":1,"a`, `{"a":1,"a\`, "{\"a\":1,\"a\xff\"", `{"a":1,"a\x"`, "{\"a\":1,\"a\n\"", `{"a":1},"a":2}`, `{"a":1,a:1}`, `{"\ud83d":1,"\ud83d":2}`} {
		refused(t, s, api.ErrJson)
	}
	refused(t, `{"a":[[[[[[[[1]]]]]]]],"a":2}`, api.ErrDeep)
	refused(t, `{"a":[`+repeated("1", 255)+`],"a":2}`, api.ErrMany)
	refused(t, `{"a":[`+repeated("1", 254)+`],"a":2}`, api.ErrTwice)
}
