package jsons_test

import (
	"math"
	"slices"
	"testing"

	"latchkey/api"
	"latchkey/jsons"
)

// pair is a name and its value's place.
type pair struct {
	name  string
	place int
}

// gone: what a going over tells.
func gone(l []api.Node, i int) []pair {
	var all []pair
	for name, place := range jsons.Members(l, i) {
		all = append(all, pair{name, place})
	}
	return all
}

// has: the members of a place are just those, and Get finds each of them by its name.
func has(t *testing.T, l []api.Node, i int, want ...pair) {
	t.Helper()
	if got := gone(l, i); !slices.Equal(got, want) {
		t.Fatalf("Members(%v, %d): %v, not %v", l, i, got, want)
	}
	for _, member := range want {
		first := slices.IndexFunc(want, func(other pair) bool { return other.name == member.name })
		finds(t, l, i, member.name, want[first].place)
	}
}

func finds(t *testing.T, l []api.Node, i int, name string, want int) {
	t.Helper()
	if got, ok := jsons.Get(l, i, name); !ok || got != want {
		t.Fatalf("Get(%v, %d, %q): %d, %v; not %d", l, i, name, got, ok, want)
	}
}

func misses(t *testing.T, l []api.Node, i int, name string) {
	t.Helper()
	if got, ok := jsons.Get(l, i, name); ok || got != 0 {
		t.Fatalf("Get(%v, %d, %q): %d, %v; there is none", l, i, name, got, ok)
	}
}

func parsed(t *testing.T, s string) []api.Node {
	t.Helper()
	l, err := jsons.Parse([]byte(s))
	if err != api.OK {
		t.Fatalf("Parse(%q): error %d", s, err)
	}
	return l
}

func TestP52Example(t *testing.T) {
	l := parsed(t, `{"a": [1, "x"]}`)
	has(t, l, 0, pair{"a", 1})
	misses(t, l, 0, "b")
}

func TestP52MembersInTheirOrder(t *testing.T) {
	l := parsed(t, `{"z":1,"a":{"y":[2,3],"":4},"\u006d":5,"M":"z","`+"\u00e9"+`":null}`)
	has(t, l, 0, pair{"z", 1}, pair{"a", 2}, pair{"m", 7}, pair{"M", 8}, pair{"\u00e9", 9})
	has(t, l, 2, pair{"y", 3}, pair{"", 6})
	for _, name := range []string{"", "y", "zz", "Z", `\u006d`, "e\u0301", "a ", "\xc3", "\xff", "null"} {
		misses(t, l, 0, name)
	}
	for _, name := range []string{"z", "a", " ", "m"} {
		misses(t, l, 2, name)
	}
}

func TestP52NodesWithoutMembers(t *testing.T) {
	l := parsed(t, `[{},[],"a",1,true,false,null]`)
	for i := range l {
		has(t, l, i)
		misses(t, l, i, "")
		misses(t, l, i, "a")
	}
}

func TestP52PlacesThatAreNotThere(t *testing.T) {
	l := parsed(t, `{"a":{"b":1}}`)
	for _, i := range []int{-1, -2, -3, len(l), len(l) + 1, 1 << 20, math.MaxInt, math.MinInt} {
		for _, list := range [][]api.Node{l, nil, {}, l[:0], l[:1:1]} {
			has(t, list, i)
			misses(t, list, i, "a")
			misses(t, list, i, "")
		}
	}
	for _, list := range [][]api.Node{nil, {}, l[:0]} {
		has(t, list, 0)
		misses(t, list, 0, "a")
	}
	has(t, l[:1:2], 1)
}

// Parse never answers such nodes: the names and the places count as far as there are both, whatever kind it is, wherever they point.
func TestP52NodesThatParseNeverAnswers(t *testing.T) {
	l := []api.Node{
		{Kind: api.JObject, Names: []string{"a", "b", "c"}, Kids: []int{5, 6}},
		{Kind: api.JObject, Names: []string{"a"}, Kids: []int{7, 8, 9}},
		{Kind: api.JObject, Names: []string{"a"}},
		{Kind: api.JObject, Kids: []int{1}},
		{Kind: api.JObject, Names: []string{"a", "b", "c"}, Kids: []int{-1, math.MaxInt, math.MinInt}},
		{Kind: api.JArray, Names: []string{"a"}, Kids: []int{1, 2}},
		{Names: []string{"x"}, Kids: []int{0}},
		{Kind: 99, Text: "t", Names: []string{"", "\xff"}, Kids: []int{3, 4}},
		{},
	}
	has(t, l, 0, pair{"a", 5}, pair{"b", 6})
	misses(t, l, 0, "c")
	has(t, l, 1, pair{"a", 7})
	misses(t, l, 1, "")
	has(t, l, 2)
	misses(t, l, 2, "a")
	has(t, l, 3)
	misses(t, l, 3, "")
	has(t, l, 4, pair{"a", -1}, pair{"b", math.MaxInt}, pair{"c", math.MinInt})
	has(t, l, 5, pair{"a", 1})
	has(t, l, 6, pair{"x", 0})
	has(t, l, 7, pair{"", 3}, pair{"\xff", 4})
	has(t, l, 8)
}

// Spare room behind a list is no part of it.
func TestP52SpareRoomIsNoMember(t *testing.T) {
	names, kids := []string{"a", "b", "c"}, []int{1, 2, 3}
	l := []api.Node{{Kind: api.JObject, Names: names[:1], Kids: kids[:2]}, {Kind: api.JObject, Names: names[:2], Kids: kids[:1]}}
	for i := range l {
		has(t, l, i, pair{"a", 1})
		misses(t, l, i, "b")
	}
}

func TestP52NamesThatStandTwice(t *testing.T) {
	l := []api.Node{{Kind: api.JObject, Names: []string{"b", "a", "b", "a", "a"}, Kids: []int{9, 8, 7, 0, 6}}}
	has(t, l, 0, pair{"b", 9}, pair{"a", 8}, pair{"b", 7}, pair{"a", 0}, pair{"a", 6})
	finds(t, l, 0, "a", 8)
	finds(t, l, 0, "b", 9)
}

// A place of 0 that is found is told apart from none.
func TestP52PlaceOfZeroIsFound(t *testing.T) {
	l := []api.Node{{Kind: api.JObject, Names: []string{"a"}, Kids: []int{0}}}
	finds(t, l, 0, "a", 0)
	misses(t, l, 0, "b")
}

func TestP52RangeThatEndsEarly(t *testing.T) {
	l := parsed(t, `{"a":1,"b":2,"c":3}`)
	all := jsons.Members(l, 0)
	for size := 1; size <= 3; size++ {
		var seen []pair
		all(func(name string, place int) bool {
			seen = append(seen, pair{name, place})
			return len(seen) < size
		})
		if want := gone(l, 0)[:size]; !slices.Equal(seen, want) {
			t.Errorf("ended behind %d: %v, not %v", size, seen, want)
		}
	}
	for name := range all {
		if name != "a" {
			t.Errorf("behind an early end it goes on with %q", name)
		}
		break
	}
}

func TestP52GoneOverOftenAndWithinItself(t *testing.T) {
	l := parsed(t, `{"a":1,"b":2,"c":3}`)
	all := jsons.Members(l, 0)
	want := gone(l, 0)
	for range 3 {
		var seen []pair
		for name, place := range all {
			seen = append(seen, pair{name, place})
			var inner []pair
			for name, place := range all {
				inner = append(inner, pair{name, place})
			}
			if !slices.Equal(inner, want) {
				t.Errorf("within itself: %v", inner)
			}
		}
		if !slices.Equal(seen, want) {
			t.Errorf("gone over again: %v", seen)
		}
	}
	for range jsons.Members(nil, 0) {
		t.Error("a member of nothing")
	}
}
