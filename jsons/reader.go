package jsons

import (
	"bytes"

	"latchkey/api"
)

// reader goes through bytes: those that are not read yet, the nodes of the values that have begun, and how many brackets are open.
type reader struct {
	rest  []byte
	nodes []api.Node
	open  int
}

// take: whether just these signs are next; then they are read.
func (r *reader) take(signs string) bool {
	rest, ok := bytes.CutPrefix(r.rest, []byte(signs))
	r.rest = rest
	return ok
}

// blanks: reads those that are next.
func (r *reader) blanks() {
	r.rest = bytes.TrimLeft(r.rest, " \t\n\r")
}

// takeBehindBlanks: take, where blanks may stand ahead.
func (r *reader) takeBehindBlanks(signs string) bool {
	r.blanks()
	return r.take(signs)
}

// value: reads one, which should stand here.
func (r *reader) value() api.Errno {
	if len(r.nodes) == api.MaxNodes {
		return api.ErrMany
	}
	r.blanks()
	switch {
	case r.take("{"):
		return r.brackets(api.JObject, "}", r.member)
	case r.take("["):
		return r.brackets(api.JArray, "]", r.element)
	}
	node, ok := r.plain()
	if !ok {
		return api.ErrJson
	}
	r.nodes = append(r.nodes, node)
	return api.OK
}

// brackets: reads an object or an array, of which the first bracket is read; piece reads what stands ahead of each comma, and of the end, for the node of the place that it is given.
func (r *reader) brackets(kind api.JsonKind, end string, piece func(at int) api.Errno) api.Errno {
	if r.open == api.MaxNest {
		return api.ErrDeep
	}
	r.open++
	defer func() { r.open-- }()
	at := len(r.nodes)
	r.nodes = append(r.nodes, api.Node{Kind: kind})
	if r.takeBehindBlanks(end) {
		return api.OK
	}
	for more := true; more; more = r.takeBehindBlanks(",") {
		if err := piece(at); err != api.OK {
			return err
		}
	}
	if !r.take(end) {
		return api.ErrJson
	}
	return api.OK
}

// member: reads a name and its value for an object.
func (r *reader) member(at int) api.Errno {
	r.blanks()
	name, ok := r.text()
	if !ok {
		return api.ErrJson
	}
	if _, twice := find(r.nodes[at], name); twice {
		return api.ErrTwice
	}
	if !r.takeBehindBlanks(":") {
		return api.ErrJson
	}
	r.nodes[at].Names = append(r.nodes[at].Names, name)
	return r.element(at)
}

// element: reads a value for an object or an array.
func (r *reader) element(at int) api.Errno {
	// A value's node is the next one, whatever nodes follow within it.
	r.nodes[at].Kids = append(r.nodes[at].Kids, len(r.nodes))
	return r.value()
}

// plain: reads a value that has no others within it; false: there is none.
func (r *reader) plain() (api.Node, bool) {
	switch {
	case r.take("true"):
		return api.Node{Kind: api.JTrue}, true
	case r.take("false"):
		return api.Node{Kind: api.JFalse}, true
	case r.take("null"):
		return api.Node{Kind: api.JNull}, true
	case bytes.HasPrefix(r.rest, []byte(quote)):
		text, ok := r.text()
		return api.Node{Kind: api.JString, Text: text}, ok
	}
	text, ok := r.number()
	return api.Node{Kind: api.JNumber, Text: text}, ok
}
