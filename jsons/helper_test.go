package jsons_test

import (
	"bytes"
	"encoding/json/jsontext"
	"errors"
	"io"
	"regexp"
	"slices"
	"strings"
	"testing"

	"latchkey/api"
	"latchkey/jsons"
)

func object(names []string, kids ...int) api.Node {
	return api.Node{Kind: api.JObject, Names: names, Kids: kids}
}

func array(kids ...int) api.Node { return api.Node{Kind: api.JArray, Kids: kids} }

func text(s string) api.Node { return api.Node{Kind: api.JString, Text: s} }

func number(s string) api.Node { return api.Node{Kind: api.JNumber, Text: s} }

func word(kind api.JsonKind) api.Node { return api.Node{Kind: kind} }

// same: whether two lists hold the same nodes; lists without anything in them are alike.
func same(a, b []api.Node) bool {
	return slices.EqualFunc(a, b, func(a, b api.Node) bool {
		return a.Kind == b.Kind && a.Text == b.Text && slices.Equal(a.Names, b.Names) && slices.Equal(a.Kids, b.Kids)
	})
}

// parses: the bytes are read as just those nodes.
func parses(t *testing.T, s string, want ...api.Node) {
	t.Helper()
	got, err := jsons.Parse([]byte(s))
	if err != api.OK || !same(got, want) {
		t.Fatalf("Parse(%.200q): %v, error %d; not %v, no error", s, got, err, want)
	}
}

// refused: the bytes are refused with just that error, and no nodes stand beside it.
func refused(t *testing.T, s string, want api.Errno) {
	t.Helper()
	got, err := jsons.Parse([]byte(s))
	if err != want || len(got) != 0 {
		t.Fatalf("Parse(%.200q), %d bytes: %v, error %d; not none, error %d", s, len(s), got, err, want)
	}
}

// judged: the bytes are read, or refused, as the judge says, and their nodes are those that the library reads.
func judged(t *testing.T, s string) {
	t.Helper()
	want, wrong := library(s)
	switch err := judge(s); {
	case err == api.OK && wrong != nil:
		t.Fatalf("the judge takes %q, the library doesn't: %v", s, wrong)
	case (err == api.ErrJson || err == api.ErrTwice) && wrong == nil:
		t.Fatalf("the library takes %q, the judge doesn't: error %d", s, err)
	case err != api.OK:
		refused(t, s, err)
	default:
		parses(t, s, want...)
	}
}

// library: the nodes as the library reads them, and whether it does. It knows no limits, but names that stand twice.
func library(s string) ([]api.Node, error) {
	d := jsontext.NewDecoder(strings.NewReader(s))
	var nodes []api.Node
	var value func() error
	value = func() error {
		token, err := d.ReadToken()
		if err != nil {
			return err
		}
		at := len(nodes)
		nodes = append(nodes, api.Node{Kind: kindOf(token.Kind())})
		switch token.Kind() {
		case jsontext.KindString, jsontext.KindNumber:
			nodes[at].Text = token.String()
		case jsontext.KindBeginObject, jsontext.KindBeginArray:
			for d.PeekKind() != jsontext.KindEndObject && d.PeekKind() != jsontext.KindEndArray {
				if token.Kind() == jsontext.KindBeginObject {
					name, err := d.ReadToken()
					if err != nil {
						return err
					}
					nodes[at].Names = append(nodes[at].Names, name.String())
				}
				nodes[at].Kids = append(nodes[at].Kids, len(nodes))
				if err := value(); err != nil {
					return err
				}
			}
			_, err = d.ReadToken()
		}
		return err
	}
	if err := value(); err != nil {
		return nil, err
	}
	if _, err := d.ReadToken(); err != io.EOF {
		return nil, errors.New("more behind the value")
	}
	return nodes, nil
}

func kindOf(kind jsontext.Kind) api.JsonKind {
	return map[jsontext.Kind]api.JsonKind{
		jsontext.KindBeginObject: api.JObject, jsontext.KindBeginArray: api.JArray,
		jsontext.KindString: api.JString, jsontext.KindNumber: api.JNumber,
		jsontext.KindTrue: api.JTrue, jsontext.KindFalse: api.JFalse, jsontext.KindNull: api.JNull,
	}[kind]
}

var (
	textForm  = regexp.MustCompile(`(?s)^"(?:[^"\\]|\\.)*"`)
	plainForm = regexp.MustCompile(`^(?:-?(?:0|[1-9][0-9]*)(?:\.[0-9]+)?(?:[eE][+-]?[0-9]+)?|true|false|null)`)
)

// judge: which error is the first, by a walk over pieces with the names of the open objects on a pile (nil: an array), instead of one value within another.
func judge(s string) api.Errno {
	if len(s) > api.MaxJson {
		return api.ErrLong
	}
	var pile []map[string]bool
	values := 0
	state := "value"
	cut := func(size int) { s = strings.TrimLeft(s[size:], " \t\r\n") }
	for cut(0); ; {
		inObject := len(pile) > 0 && pile[len(pile)-1] != nil
		switch {
		case state == "behind" && len(pile) == 0:
			if s != "" {
				return api.ErrJson
			}
			return api.OK
		case state == "behind" && strings.HasPrefix(s, ","):
			cut(1)
			state = "value"
			if inObject {
				state = "name"
			}
		case state != "value" && state != "name" && strings.HasPrefix(s, "}") && inObject,
			state != "value" && state != "name" && strings.HasPrefix(s, "]") && !inObject:
			cut(1)
			pile = pile[:len(pile)-1]
			state = "behind"
		case state == "behind":
			return api.ErrJson
		case state == "name" || state == "begun" && inObject:
			whole := textForm.FindString(s)
			name, err := jsontext.AppendUnquote(nil, whole)
			if err != nil {
				return api.ErrJson
			}
			if pile[len(pile)-1][string(name)] {
				return api.ErrTwice
			}
			pile[len(pile)-1][string(name)] = true
			if cut(len(whole)); !strings.HasPrefix(s, ":") {
				return api.ErrJson
			}
			cut(1)
			state = "value"
		default:
			values++
			if values > api.MaxNodes {
				return api.ErrMany
			}
			if strings.HasPrefix(s, "[") || strings.HasPrefix(s, "{") {
				if len(pile) == api.MaxNest {
					return api.ErrDeep
				}
				var names map[string]bool
				if s[0] == '{' {
					names = map[string]bool{}
				}
				pile = append(pile, names)
				cut(1)
				state = "begun"
				continue
			}
			size := len(plainForm.FindString(s))
			if whole := textForm.FindString(s); whole != "" && jsontext.Value(whole).IsValid() {
				size = len(whole)
			}
			if size == 0 {
				return api.ErrJson
			}
			cut(size)
			state = "behind"
		}
	}
}

// repeated: so many copies of a text with commas between them.
func repeated(s string, count int) string {
	return strings.Join(slices.Repeat([]string{s}, count), ",")
}

// roomy: the bytes in memory with spare room behind them, and all of that memory.
func roomy(b []byte) ([]byte, []byte) {
	all := append(slices.Clone(b), bytes.Repeat([]byte("\"]}1 "), 20)...)
	return all[:len(b)], all
}
