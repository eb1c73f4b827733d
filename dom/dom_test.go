package dom

import (
	"math"
	"slices"
	"testing"

	"townreader/api"
)

// strange: numbers that no node of page has; 3 is within it, but not Live.
var strange = []int{math.MinInt, -8, -1, 3, 13, 14, 60, math.MaxInt}

func TestNew(t *testing.T) {
	want := api.Doc{{Live: true, Tag: "main", Up: -1}}
	first := New()
	if !same(first, want) {
		t.Errorf("New() = %+v", first)
	}
	spoil(t, first)
	if !same(New(), want) {
		t.Errorf("New() = %+v, once another one was changed", New())
	}
}

func TestOwn(t *testing.T) {
	d := page(t)
	given := roomy(d)
	own := Own(given)
	if !same(own, d) {
		t.Errorf("Own is %+v, not %+v", own, d)
	}
	spoil(t, own)
	checkRoom(t, given, d)
	own = Own(given)
	spoil(t, given)
	if !same(own, d) {
		t.Errorf("Own is %+v, once what was handed in was changed", own)
	}
}

func TestOwnOfNothing(t *testing.T) {
	for _, d := range []api.Doc{nil, {}, make(api.Doc, 0, 4)} {
		if own := Own(d); len(own) != 0 {
			t.Errorf("Own of nothing has %d nodes", len(own))
		}
	}
}

func TestIs(t *testing.T) {
	d := page(t)
	for n := range 13 {
		live, tagged := n != 3, !slices.Contains([]int{3, 4, 8, 12}, n)
		if Is(d, n, false) != live || Is(d, n, true) != tagged {
			t.Errorf("Is of %d: %v, %v", n, Is(d, n, false), Is(d, n, true))
		}
	}
	for _, n := range strange {
		if Is(d, n, false) || Is(d, n, true) {
			t.Errorf("there is a node %d", n)
		}
	}
}

func TestAttr(t *testing.T) {
	d := page(t)
	for _, c := range []struct {
		n           int
		name, value string
		has         bool
	}{
		{2, "id", "y", true}, {2, "class", " A b ", true}, {1, "id", "", true}, {10, "id", "y", true},
		{2, "ID", "", false}, {2, "", "", false}, {2, "clas", "", false}, {2, "classes", "", false}, {2, "zz", "", false}, {2, "a", "", false},
		{0, "id", "", false}, {4, "id", "", false}, {4, "", "", false}, {8, "id", "", false},
	} {
		if value, has := Attr(d, c.n, c.name); value != c.value || has != c.has {
			t.Errorf("Attr(%d, %q) = %q, %v", c.n, c.name, value, has)
		}
	}
	for _, n := range strange {
		if value, has := Attr(d, n, "id"); value != "" || has {
			t.Errorf("Attr of no node %d = %q, %v", n, value, has)
		}
	}
}

// above: of each node of page it, its Up, and so on.
func above() [][]int {
	return [][]int{{0}, {1, 0}, {2, 1, 0}, {}, {4, 2, 1, 0}, {5, 0}, {6, 5, 0}, {7, 5, 0}, {8, 5, 0}, {9, 7, 5, 0}, {10, 7, 5, 0}, {11, 10, 7, 5, 0}, {12, 11, 10, 7, 5, 0}}
}

func TestWithinAndDeep(t *testing.T) {
	d := page(t)
	for n, ups := range above() {
		if deep := Deep(d, n); deep != max(0, len(ups)-1) {
			t.Errorf("Deep(%d) = %d, and above it are %v", n, deep, ups)
		}
		for in := -2; in < 15; in++ {
			if got := Within(d, n, in); got != slices.Contains(ups, in) {
				t.Errorf("Within(%d, %d) = %v", n, in, got)
			}
		}
	}
	for _, n := range strange {
		if Deep(d, n) != 0 || Within(d, n, 0) || Within(d, n, n) || Within(d, 0, n) || Within(d, n, -1) {
			t.Errorf("what is no node, %d, is within something, or deep", n)
		}
	}
}

func TestAll(t *testing.T) {
	d := page(t)
	for n, want := range [][]int{
		{0, 1, 2, 4, 5, 7, 10, 11, 12, 9, 8, 6}, {1, 2, 4}, {2, 4}, {}, {4},
		{5, 7, 10, 11, 12, 9, 8, 6}, {6}, {7, 10, 11, 12, 9}, {8}, {9}, {10, 11, 12}, {11, 12}, {12},
	} {
		if got := All(d, n); !slices.Equal(got, want) {
			t.Errorf("All(%d) = %v, not %v", n, got, want)
		}
	}
	for _, n := range strange {
		if got := All(d, n); len(got) != 0 {
			t.Errorf("All(%d) = %v", n, got)
		}
	}
}

func TestAllGoesByPlacesNotNumbers(t *testing.T) {
	d := build(t, element(0, "a"), ahead(element(0, "b"), 1), ahead(element(0, "c"), 1))
	if got := All(d, 0); !slices.Equal(got, []int{0, 2, 3, 1}) {
		t.Errorf("All = %v", got)
	}
}

func TestAllIsTheCallers(t *testing.T) {
	d := page(t)
	given := roomy(d)
	for n := range d {
		all := All(given, n)
		all = all[:cap(all)]
		for i := range all {
			all[i] = 99
		}
	}
	checkRoom(t, given, d)
}

func TestScope(t *testing.T) {
	d := page(t)
	for n, want := range []int{0, 0, 0, 0, 0, 0, 0, 5, 5, 5, 7, 7, 7} {
		if got := Scope(d, n); got != want {
			t.Errorf("Scope(%d) = %d, not %d", n, got, want)
		}
	}
	for _, n := range strange {
		if got := Scope(d, n); got != 0 {
			t.Errorf("Scope(%d) = %d", n, got)
		}
	}
}

func TestFind(t *testing.T) {
	d := page(t)
	for id, want := range map[string][3]int{ // of those whose scope is 0, 5, 7
		"x": {5, 9, -1}, "y": {2, -1, 10}, "z": {-1, -1, 11}, "": {-1, -1, -1}, "X": {-1, -1, -1}, " x": {-1, -1, -1}, "x y": {-1, -1, -1},
	} {
		for n, at := range []int{0, 0, 0, -1, 0, 0, 0, 1, 1, 1, 2, 2, 2} {
			whole := -1
			if at >= 0 {
				whole = want[at]
			}
			if got := Find(d, n, id); got != whole {
				t.Errorf("Find(%d, %q) = %d, not %d", n, id, got, whole)
			}
		}
		for _, n := range strange {
			if got := Find(d, n, id); got != -1 {
				t.Errorf("Find(%d, %q) = %d", n, id, got)
			}
		}
	}
}

func TestFindTellsTheFirstPlace(t *testing.T) {
	d := build(t, element(0, "a"), ahead(element(0, "b"), 1), attr(1, "id", "x"), attr(2, "id", "x"))
	if got := Find(d, 0, "x"); got != 2 {
		t.Errorf("Find = %d", got)
	}
	d = grow(t, d, removed(2))
	if got := Find(d, 0, "x"); got != 1 {
		t.Errorf("Find = %d, once the first one is gone", got)
	}
	d = grow(t, d, attr(0, "id", "x"))
	if got := Find(d, 1, "x"); got != 0 {
		t.Errorf("Find = %d, and the root has it", got)
	}
}

func TestNothingIsADocumentWithoutNodes(t *testing.T) {
	for _, d := range []api.Doc{nil, {}} {
		value, has := Attr(d, 0, "id")
		if Is(d, 0, false) || value != "" || has || Within(d, 0, 0) || Deep(d, 0) != 0 || len(All(d, 0)) != 0 || Scope(d, 0) != 0 || Find(d, 0, "x") != -1 {
			t.Errorf("nothing has a node")
		}
		if y, n, err := Apply(d, element(0, "p")); len(y) != 0 || n != 0 || err != api.ErrNone {
			t.Errorf("Apply to nothing: %v, %d, %d", y, n, err)
		}
	}
}

func TestQuestionsOnlyRead(t *testing.T) {
	d := page(t)
	given := roomy(d)
	for n := -1; n < len(d)+4; n++ {
		Is(given, n, true)
		Attr(given, n, "mark")
		Within(given, n, 5)
		Deep(given, n)
		All(given, n)
		Scope(given, n)
		Find(given, n, "x")
	}
	checkRoom(t, given, d)
	if Is(given, len(d), false) || Find(given, 0, "mark") != -1 {
		t.Errorf("the room behind nodes is looked at")
	}
	if _, has := Attr(given, 2, "mark"); has {
		t.Errorf("the room behind attributes is looked at")
	}
}
