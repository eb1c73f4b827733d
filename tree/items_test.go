package tree

import (
	"slices"
	"strconv"
	"testing"

	"townreader/api"
)

// forest has all that items may say, at each depth.
func forest() []api.Item {
	return []api.Item{
		{Node: 3, Role: api.RoleMain, Name: "a", About: "b", Off: true, Kids: []api.Item{
			{Node: 1, Role: api.RoleHeading, Level: 2, Kids: []api.Item{{Node: 7, Role: api.RoleText, Name: "t"}}},
			{Node: 4, Role: api.RoleCheck, Checked: 3, Kids: []api.Item{}},
		}},
		{Node: 2},
		{Node: 5, Kids: []api.Item{{Node: 0}, {Node: 6}}},
	}
}

func TestNodesAreAheadOfThoseInThem(t *testing.T) {
	if got, want := Nodes(forest()), []int{3, 1, 7, 4, 2, 5, 0, 6}; !slices.Equal(got, want) {
		t.Errorf("Nodes = %v, not %v", got, want)
	}
	for _, none := range [][]api.Item{nil, {}} {
		if got := Nodes(none); len(got) > 0 {
			t.Errorf("Nodes = %v of nothing", got)
		}
	}
	// numbers are told as they are, whatever they are, and as often as they are
	strangers := []api.Item{{Node: -1, Kids: []api.Item{{Node: 99}, {Node: -1}}}, {Node: 99}}
	if got, want := Nodes(strangers), []int{-1, 99, -1, 99}; !slices.Equal(got, want) {
		t.Errorf("Nodes = %v, not %v", got, want)
	}
}

func TestOwnIsACopy(t *testing.T) {
	l := forest()
	own := Own(l)
	checkItems(t, own, forest()...)
	spoil(l)
	checkItems(t, own, forest()...)
	l = forest()
	spoil(Own(l))
	checkItems(t, l, forest()...)
	for _, none := range [][]api.Item{nil, {}} {
		checkItems(t, Own(none))
	}
}

// TestOwnSharesNoRoom: what is set behind a list of the copy is not set behind another one.
func TestOwnSharesNoRoom(t *testing.T) {
	l := roomyItems(forest())
	was := wholeItems(l)
	own := Own(l)
	checkItems(t, own, forest()...)
	checkNodes(t, l, 3, 1, 7, 4, 2, 5, 0, 6)
	kids := own[0].Kids
	_ = append(kids, api.Item{Node: 88})
	_ = append(kids[0].Kids, api.Item{Node: 88})
	_ = append(own, api.Item{Node: 88})
	checkItems(t, own, forest()...)
	spoil(own)
	if got := wholeItems(l); got != was {
		t.Errorf("%s was handed in, and is %s", was, got)
	}
}

func checkNodes(t *testing.T, l []api.Item, want ...int) {
	t.Helper()
	got := Nodes(l)
	if !slices.Equal(got, want) {
		t.Errorf("Nodes = %v, not %v", got, want)
	}
	room := got[:cap(got)]
	for i := range room {
		room[i] = 99
	}
	if again := Nodes(l); !slices.Equal(again, want) {
		t.Errorf("Nodes = %v the second time, not %v", again, want)
	}
}

// TestItemsThatAreNestedDeep: as deep as anything may be.
func TestItemsThatAreNestedDeep(t *testing.T) {
	const depth = 1 << 16
	var l []api.Item
	for n := range depth {
		l = []api.Item{{Node: n, Name: strconv.Itoa(n), Kids: l}}
	}
	nodes := Nodes(Own(l))
	if len(nodes) != depth || nodes[0] != depth-1 || nodes[depth-1] != 0 {
		t.Errorf("there are %d nodes", len(nodes))
	}
}
