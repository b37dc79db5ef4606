package jsons_test

import (
	"bytes"
	"slices"
	"testing"

	"latchkey/api"
	"latchkey/jsons"
)

// deep: a copy of nodes that shares nothing with them, their spare room included.
func deep(l []api.Node) []api.Node {
	l = slices.Clone(l)
	for i := range l {
		l[i].Names = slices.Clone(l[i].Names)
		l[i].Kids = slices.Clone(l[i].Kids)
	}
	return l
}

// spoil: writes over nodes and all their lists, spare room included.
func spoil(l []api.Node) {
	l = l[:cap(l)]
	for i := range l {
		spoilLists(l[i])
		l[i] = api.Node{Kind: 99, Text: "spoilt", Names: []string{"spoilt"}, Kids: []int{-99}}
	}
}

func spoilLists(n api.Node) {
	for i := range n.Names[:cap(n.Names)] {
		n.Names[:cap(n.Names)][i] = "spoilt"
	}
	for i := range n.Kids[:cap(n.Kids)] {
		n.Kids[:cap(n.Kids)][i] = -99
	}
}

// Spare room behind the bytes isn't read, whatever would go on there, and isn't written.
func TestR6BytesStayAsTheyAre(t *testing.T) {
	for end := range len(whole) + 1 {
		b, all := roomy([]byte(whole[:end]))
		before := slices.Clone(all)
		_, err := jsons.Parse(b)
		if !bytes.Equal(all, before) {
			t.Errorf("the first %d bytes were changed", end)
		}
		if want := judge(whole[:end]); err != want {
			t.Errorf("the first %d bytes with room behind them: error %d, not %d", end, err, want)
		}
	}
}

func TestR6BytesAreNotKept(t *testing.T) {
	b, all := roomy([]byte(whole))
	got, _ := jsons.Parse(b)
	for i := range all {
		all[i] = '#'
	}
	if want, _ := library(whole); !same(got, want) {
		t.Errorf("the nodes changed with the bytes: %v", got)
	}
}

func TestR6AnswersAreApart(t *testing.T) {
	want, _ := library(whole)
	first, _ := jsons.Parse([]byte(whole))
	second, _ := jsons.Parse([]byte(whole))
	spoil(first)
	if !same(second, want) {
		t.Errorf("two answers share memory: %v", second)
	}
	parses(t, whole, want...)
}

// Each node's lists are their own, so that one may be written over, or grown, and the others stay.
func TestR6ListsOfOneAnswerAreApart(t *testing.T) {
	const s = `{"a":{"b":1,"c":[2,3,4]},"d":[5,[6],{}],"e":{"f":{"g":7}}}`
	want, _ := library(s)
	for i := range want {
		got, _ := jsons.Parse([]byte(s))
		spoilLists(got[i])
		got[i] = want[i]
		if !same(got, want) {
			t.Errorf("node %d shares memory with another one: %v", i, got)
		}
	}
}

// roomyNodes: nodes whose lists have spare room behind them.
func roomyNodes() []api.Node {
	names, kids := []string{"a", "b", "a", "x", "y"}, []int{4, 5, 6, 7, 8}
	l := []api.Node{{Kind: api.JObject, Names: names[:3], Kids: kids[:3]}, {Kind: api.JString, Text: "s"}, {}, {Kind: 9}}
	return l[:3]
}

func TestR6NodesStayAsTheyAre(t *testing.T) {
	l := roomyNodes()
	before := deep(l[:cap(l)])
	for i := -1; i <= len(l); i++ {
		for range jsons.Members(l, i) {
		}
		for range jsons.Members(l, i) {
			break
		}
		jsons.Get(l, i, "a")
		jsons.Get(l, i, "none")
	}
	if !same(l[:cap(l)], before) || !slices.Equal(l[0].Names[:5], []string{"a", "b", "a", "x", "y"}) || !slices.Equal(l[0].Kids[:5], []int{4, 5, 6, 7, 8}) {
		t.Errorf("the nodes were changed: %v", l)
	}
}

// What Members answers stays as it was, though the nodes change behind the call, or as they are gone over.
func TestR6NodesAreNotKept(t *testing.T) {
	want := []pair{{"a", 4}, {"b", 5}, {"a", 6}}
	l := roomyNodes()
	all := jsons.Members(l, 0)
	var seen []pair
	for name, place := range all {
		spoil(l)
		seen = append(seen, pair{name, place})
	}
	if !slices.Equal(seen, want) {
		t.Errorf("spoilt as they are gone over: %v", seen)
	}
	seen = nil
	for name, place := range all {
		seen = append(seen, pair{name, place})
	}
	if !slices.Equal(seen, want) {
		t.Errorf("spoilt behind the call: %v", seen)
	}
}

func TestR8OneArgumentOneAnswer(t *testing.T) {
	want, _ := library(whole)
	for _, between := range []string{"", "[[[[[[[[[", "[[[[[[[[", `{"a":1,"a":2}`, "[" + repeated("1", 300) + "]", "x", `"\ud83d`} {
		jsons.Parse([]byte(between))
		parses(t, whole, want...)
	}
}
