package dom

import (
	"math"
	"slices"
	"strconv"
	"strings"
	"testing"

	"townreader/api"
)

func long(n int) string { return strings.Repeat("v", n) }

// apply hands d in with room behind its lists, and sees to it that it is only read, and that the answer is the caller's.
func apply(t *testing.T, d api.Doc, x api.Change) (api.Doc, int, api.Errno) {
	t.Helper()
	given := roomy(d)
	y, n, err := Apply(given, x)
	checkRoom(t, given, d)
	kept := Own(y)
	spoil(t, y)
	checkRoom(t, given, d)
	return kept, n, err
}

func checkRefused(t *testing.T, d api.Doc, x api.Change, want api.Errno) {
	t.Helper()
	if y, n, err := apply(t, d, x); len(y) != 0 || n != 0 || err != want {
		t.Errorf("%+v: %d nodes, %d, error %d come, not error %d", x, len(y), n, err, want)
	}
}

// checkMade applies x to d: node must be answered, and what comes must be d with its nodes set to those of others.
func checkMade(t *testing.T, d api.Doc, x api.Change, node int, others map[int]api.Node) api.Doc {
	t.Helper()
	y, n, err := apply(t, d, x)
	if err != api.OK || n != node {
		t.Fatalf("%+v: %d, error %d come, not %d", x, n, err, node)
	}
	want := Own(d)
	for at, other := range others {
		for len(want) <= at {
			want = append(want, api.Node{})
		}
		want[at] = other
	}
	if !same(y, want) {
		t.Errorf("%+v:\n%+v comes, not\n%+v", x, y, want)
	}
	checkTree(t, y)
	return y
}

// with is node n of d, told otherwise.
func with(d api.Doc, n int, tell func(n *api.Node)) api.Node {
	own := Own(d)[n]
	tell(&own)
	return own
}

func kids(d api.Doc, n int, l ...int) api.Node {
	return with(d, n, func(n *api.Node) { n.Kids = l })
}

func shadowOf(d api.Doc, n int, l ...int) api.Node {
	return with(d, n, func(n *api.Node) { n.Shadow = l })
}

func TestKindsThatAreNone(t *testing.T) {
	d := page(t)
	for _, kind := range []int{math.MinInt, -1, 0, 11, 12, math.MaxInt} {
		for _, n := range append([]int{0, 1, 4}, strange...) {
			checkRefused(t, d, api.Change{Kind: kind, Node: n, Name: "p"}, api.ErrKind)
		}
	}
}

func TestNodesThatAreNone(t *testing.T) {
	d := page(t)
	for kind := api.ChgMake; kind <= api.ChgTextS; kind++ {
		for _, n := range strange {
			checkRefused(t, d, api.Change{Kind: kind, Node: n, To: -1, Before: n, Name: "P", Value: long(61)}, api.ErrNone)
		}
	}
}

func TestMake(t *testing.T) {
	d := page(t)
	made := func(up int) api.Node { return api.Node{Live: true, Tag: "p", Up: up} }
	checkMade(t, d, element(0, "p"), 3, map[int]api.Node{3: made(0), 0: kids(d, 0, 1, 5, 3)})
	checkMade(t, d, ahead(element(0, "p"), 1), 3, map[int]api.Node{3: made(0), 0: kids(d, 0, 3, 1, 5)})
	checkMade(t, d, ahead(element(0, "p"), 5), 3, map[int]api.Node{3: made(0), 0: kids(d, 0, 1, 3, 5)})
	checkMade(t, d, ahead(element(5, "p"), math.MinInt), 3, map[int]api.Node{3: made(5), 5: kids(d, 5, 6, 3)})
	y := checkMade(t, d, api.Change{Kind: api.ChgMake, Node: 11, To: -9, Before: 12, Name: "p", Value: long(61)}, 3, map[int]api.Node{3: made(11), 11: kids(d, 11, 3, 12)})
	checkMade(t, y, element(3, "p"), 13, map[int]api.Node{13: made(3), 3: kids(y, 3, 13)})
}

func TestText(t *testing.T) {
	d := page(t)
	for _, value := range []string{"", " a  b ", "\xff\x00", long(60)} {
		made := api.Node{Live: true, Text: value, Up: 1}
		checkMade(t, d, text(1, value), 3, map[int]api.Node{3: made, 1: kids(d, 1, 2, 3)})
		checkMade(t, d, api.Change{Kind: api.ChgText, Node: 1, Before: 2, Name: "NO NAME", Value: value}, 3, map[int]api.Node{3: made, 1: kids(d, 1, 3, 2)})
	}
}

func TestMakeAndTextInShadow(t *testing.T) {
	d := page(t)
	p := api.Node{Live: true, Tag: "p", Up: 5, InS: true}
	said := api.Node{Live: true, Text: "t", Up: 5, InS: true}
	for _, before := range []int{-1, 0, 6, 7, 99} { // a shadow tree is only added to at its end, whatever Before is
		checkMade(t, d, ahead(elementS(5, "p"), before), 3, map[int]api.Node{3: p, 5: shadowOf(d, 5, 7, 8, 3)})
		checkMade(t, d, ahead(textS(5, "t"), before), 3, map[int]api.Node{3: said, 5: shadowOf(d, 5, 7, 8, 3)})
	}
}

func TestMakeRefused(t *testing.T) {
	d := page(t)
	for _, name := range []string{"", "P", "1", "-a", "a b", "é", long(21)} {
		checkRefused(t, d, element(1, name), api.ErrName)
		checkRefused(t, d, ahead(element(1, name), 99), api.ErrName)
		checkRefused(t, d, elementS(5, name), api.ErrName)
		checkRefused(t, d, elementS(1, name), api.ErrName)
		checkRefused(t, d, element(4, name), api.ErrFit)
		checkRefused(t, d, elementS(4, name), api.ErrFit)
	}
	for _, value := range []string{long(61), long(1000)} {
		checkRefused(t, d, text(1, value), api.ErrMuch)
		checkRefused(t, d, ahead(text(1, value), 99), api.ErrMuch)
		checkRefused(t, d, textS(5, value), api.ErrMuch)
		checkRefused(t, d, textS(1, value), api.ErrMuch)
		checkRefused(t, d, text(4, value), api.ErrFit)
		checkRefused(t, d, textS(4, value), api.ErrFit)
	}
	for _, n := range []int{0, 1, 2, 6, 9, 10, 11} {
		checkRefused(t, d, elementS(n, "p"), api.ErrFit)
		checkRefused(t, d, textS(n, "t"), api.ErrFit)
	}
	for _, before := range []int{0, 1, 3, 5, 7, 8, 13, math.MaxInt} { // 7 and 8 are in node 5, but in its shadow tree
		checkRefused(t, d, ahead(element(5, "p"), before), api.ErrFit)
		checkRefused(t, d, ahead(text(5, "t"), before), api.ErrFit)
	}
}

func TestNumbersThatAreFree(t *testing.T) {
	d := build(t, element(0, "a"), element(0, "b"), element(0, "c"), element(0, "d"), element(0, "e"), removed(4), removed(2))
	for _, want := range []int{2, 4, 6, 7} {
		y, n, err := Apply(d, element(0, "p"))
		if n != want || err != api.OK {
			t.Fatalf("node %d, error %d, not node %d", n, err, want)
		}
		d = y
	}
	if !slices.Equal(d[0].Kids, []int{1, 3, 5, 2, 4, 6, 7}) {
		t.Errorf("the root has %v", d[0].Kids)
	}
}

func TestMove(t *testing.T) {
	d := page(t)
	in := func(n, up int) api.Node {
		return with(d, n, func(n *api.Node) { n.Up, n.InS = up, false })
	}
	checkMade(t, d, moved(1, 0, -1), 1, map[int]api.Node{0: kids(d, 0, 5, 1)})
	checkMade(t, d, moved(5, 0, 1), 5, map[int]api.Node{0: kids(d, 0, 5, 1)})
	checkMade(t, d, moved(1, 0, 5), 1, nil)
	checkMade(t, d, moved(5, 0, -1), 5, nil)
	checkMade(t, d, moved(5, 1, 2), 5, map[int]api.Node{0: kids(d, 0, 1), 1: kids(d, 1, 5, 2), 5: in(5, 1)})
	checkMade(t, d, moved(2, 11, 12), 2, map[int]api.Node{1: kids(d, 1), 11: kids(d, 11, 2, 12), 2: in(2, 11)})
	checkMade(t, d, moved(4, 0, -3), 4, map[int]api.Node{2: kids(d, 2), 0: kids(d, 0, 1, 5, 4), 4: in(4, 0)})
	// out of a shadow tree, among the Kids of the same node, and of another one
	out := with(d, 5, func(n *api.Node) { n.Shadow, n.Kids = []int{8}, []int{7, 6} })
	checkMade(t, d, moved(7, 5, 6), 7, map[int]api.Node{5: out, 7: in(7, 5)})
	checkMade(t, d, moved(8, 9, -1), 8, map[int]api.Node{5: shadowOf(d, 5, 7), 9: kids(d, 9, 8), 8: in(8, 9)})
	checkMade(t, d, moved(10, 0, 1), 10, map[int]api.Node{7: shadowOf(d, 7), 0: kids(d, 0, 10, 1, 5), 10: in(10, 0)})
	checkMade(t, d, api.Change{Kind: api.ChgMove, Node: 1, To: 5, Before: 6, Name: "NO NAME", Value: long(61)}, 1, map[int]api.Node{0: kids(d, 0, 5), 5: kids(d, 5, 1, 6), 1: in(1, 5)})
}

func TestMoveRefused(t *testing.T) {
	d := page(t)
	for _, before := range []int{-1, 0, 1, 99} {
		checkRefused(t, d, moved(0, 1, before), api.ErrFit)
		checkRefused(t, d, moved(0, 0, before), api.ErrFit)
	}
	for _, to := range append([]int{4, 8, 12}, strange...) {
		checkRefused(t, d, moved(1, to, -1), api.ErrFit)
		checkRefused(t, d, moved(1, to, 1), api.ErrFit)
	}
	checkRefused(t, d, moved(4, 4, -1), api.ErrFit) // it is within itself, but no element
	for _, to := range []int{5, 6, 7, 9, 10, 11} {
		for _, before := range []int{-1, 5, 6, 99} {
			checkRefused(t, d, moved(5, to, before), api.ErrLoop)
		}
	}
	for _, x := range []api.Change{moved(1, 0, 1), moved(2, 0, 2), moved(1, 0, 2), moved(1, 0, 0), moved(2, 5, 7), moved(2, 5, 99), moved(2, 1, 5), moved(7, 5, 8), moved(6, 5, 6)} {
		checkRefused(t, d, x, api.ErrFit)
	}
}

func TestMovedAndBack(t *testing.T) {
	d := page(t)
	for _, n := range []int{1, 2, 4, 5, 6, 9, 11, 12} {
		l := d[d[n].Up].Kids
		behind := -1
		if at := slices.Index(l, n); at+1 < len(l) {
			behind = l[at+1]
		}
		for to := range d {
			y, _, err := Apply(d, moved(n, to, -1))
			if err != api.OK {
				continue
			}
			checkTree(t, y)
			if y = grow(t, y, moved(n, d[n].Up, behind)); !same(y, d) {
				t.Errorf("%d, moved to %d, and back: %+v", n, to, y)
			}
		}
	}
}

func TestRemove(t *testing.T) {
	d := page(t)
	none := api.Node{}
	checkMade(t, d, removed(4), 4, map[int]api.Node{4: none, 2: kids(d, 2)})
	checkMade(t, d, removed(1), 1, map[int]api.Node{1: none, 2: none, 4: none, 0: kids(d, 0, 5)})
	checkMade(t, d, removed(6), 6, map[int]api.Node{6: none, 5: kids(d, 5)})
	checkMade(t, d, removed(8), 8, map[int]api.Node{8: none, 5: shadowOf(d, 5, 7)})
	checkMade(t, d, api.Change{Kind: api.ChgRemove, Node: 9, To: 9, Before: 9, Name: "NO NAME", Value: long(61)}, 9, map[int]api.Node{9: none, 7: kids(d, 7)})
	for _, x := range []api.Change{removed(0), ahead(removed(0), 5)} {
		checkRefused(t, d, x, api.ErrFit)
	}
}

func TestNodesAtTheEndGo(t *testing.T) {
	d := page(t)
	for _, c := range []struct{ n, left int }{{12, 12}, {11, 11}, {10, 10}, {7, 9}, {5, 5}} {
		y, n, err := apply(t, d, removed(c.n))
		if len(y) != c.left || n != c.n || err != api.OK {
			t.Errorf("without %d: %d nodes, %d, error %d", c.n, len(y), n, err)
		}
		checkTree(t, y)
	}
	y := grow(t, d, removed(1), removed(5))
	if !same(y, New()) {
		t.Errorf("once all is gone, there is %+v", y)
	}
	if y = grow(t, y, element(0, "p")); len(y) != 2 {
		t.Errorf("the first node of an emptied document is %d", len(y)-1)
	}
}

func TestSay(t *testing.T) {
	d := page(t)
	for _, value := range []string{"", " two ", "\xff", long(60)} {
		for _, n := range []int{4, 8, 12} {
			node := with(d, n, func(n *api.Node) { n.Text = value })
			checkMade(t, d, said(n, value), n, map[int]api.Node{n: node})
			checkRefused(t, d, said(n, long(61)), api.ErrFit)
		}
		for _, n := range []int{0, 1, 2, 5, 11} {
			checkRefused(t, d, said(n, value), api.ErrFit)
		}
	}
}

func TestAttrOfElements(t *testing.T) {
	d := page(t)
	set := func(n int, l ...api.Attr) map[int]api.Node {
		return map[int]api.Node{n: with(d, n, func(n *api.Node) { n.Attrs = l })}
	}
	class, id := api.Attr{Name: "class", Value: " A b "}, api.Attr{Name: "id", Value: "y"}
	checkMade(t, d, attr(2, "id", ""), 2, set(2, class, api.Attr{Name: "id"}))
	checkMade(t, d, attr(2, "class", long(60)), 2, set(2, api.Attr{Name: "class", Value: long(60)}, id))
	for _, c := range []struct {
		name string
		at   int
	}{{"a", 0}, {"clas", 0}, {"class-a", 1}, {"classa", 1}, {"ic", 1}, {"id-", 2}, {"id0", 2}, {"z", 2}, {"z" + strings.Repeat("9", 19), 2}} {
		l := slices.Insert([]api.Attr{class, id}, c.at, api.Attr{Name: c.name, Value: "new"})
		checkMade(t, d, attr(2, c.name, "new"), 2, set(2, l...))
	}
	checkMade(t, d, attr(0, "id", "r"), 0, set(0, api.Attr{Name: "id", Value: "r"}))
	checkMade(t, d, api.Change{Kind: api.ChgAttr, Node: 11, To: -9, Before: 99, Name: "id", Value: "w"}, 11, set(11, api.Attr{Name: "id", Value: "w"}))
}

func TestAttrRefused(t *testing.T) {
	d := page(t)
	for _, name := range []string{"", "ID", "1", "-id", "i d", "id\n", long(21)} {
		checkRefused(t, d, attr(2, name, "x"), api.ErrName)
		checkRefused(t, d, attr(2, name, long(61)), api.ErrName)
		checkRefused(t, d, attr(4, name, long(61)), api.ErrFit)
	}
	for _, name := range []string{"id", "new", long(20)} {
		checkRefused(t, d, attr(2, name, long(61)), api.ErrMuch)
		checkRefused(t, d, attr(4, name, "x"), api.ErrFit)
	}
}

func TestAttrsHaveALimit(t *testing.T) {
	d := build(t, element(0, "p"))
	for i := api.MaxAttrs; i > 0; i-- {
		checkRefused(t, d, cleared(1, "a"+strconv.Itoa(i)), api.ErrNone)
		d = grow(t, d, attr(1, "a"+strconv.Itoa(i), "x"))
	}
	checkRefused(t, d, attr(1, "a", "x"), api.ErrMany)
	checkRefused(t, d, attr(1, "z", ""), api.ErrMany)
	checkRefused(t, d, attr(1, "z", long(61)), api.ErrMuch)
	checkRefused(t, d, attr(1, "Z", "x"), api.ErrName)
	d = grow(t, d, attr(1, "a1", "y"), attr(1, "a8", "y"), cleared(1, "a4"), attr(1, "z", "y"))
	checkRefused(t, d, attr(1, "a4", "x"), api.ErrMany)
	if first, last := d[1].Attrs[0], d[1].Attrs[7]; first.Value != "y" || last.Name != "z" {
		t.Errorf("attributes are %v", d[1].Attrs)
	}
}

func TestClear(t *testing.T) {
	d := page(t)
	set := func(n int, l ...api.Attr) map[int]api.Node {
		return map[int]api.Node{n: with(d, n, func(n *api.Node) { n.Attrs = l })}
	}
	checkMade(t, d, cleared(2, "id"), 2, set(2, api.Attr{Name: "class", Value: " A b "}))
	checkMade(t, d, cleared(2, "class"), 2, set(2, api.Attr{Name: "id", Value: "y"}))
	checkMade(t, d, cleared(1, "id"), 1, set(1))
	checkMade(t, d, api.Change{Kind: api.ChgClear, Node: 6, To: -9, Before: 99, Name: "id", Value: long(61)}, 6, set(6))
	for _, name := range []string{"", "ID", "clas", "classes", "zz", "a", long(21)} {
		checkRefused(t, d, cleared(2, name), api.ErrNone)
		checkRefused(t, d, cleared(0, name), api.ErrNone)
		checkRefused(t, d, cleared(4, name), api.ErrFit)
	}
}

func TestShadow(t *testing.T) {
	d := page(t)
	for _, n := range []int{1, 2, 6, 9, 10} {
		node := with(d, n, func(n *api.Node) { n.HasS = true })
		y := checkMade(t, d, shadow(n), n, map[int]api.Node{n: node})
		checkRefused(t, y, shadow(n), api.ErrFit)
	}
	for _, n := range []int{0, 4, 5, 7, 8, 11, 12} { // the root, texts, those that have one, a slot
		checkRefused(t, d, shadow(n), api.ErrFit)
	}
	y := grow(t, d, removed(7), removed(8)) // an empty shadow tree is one
	checkRefused(t, y, shadow(5), api.ErrFit)
	grow(t, y, elementS(5, "slot"))
	grow(t, d, element(0, "slots"), shadow(3))
}

// full is the root with MaxKids, the first of which has a shadow tree with as many.
func full(t *testing.T) api.Doc {
	d := New()
	for range api.MaxKids {
		d = grow(t, d, element(0, "p"))
	}
	d = grow(t, d, shadow(1))
	for range api.MaxKids {
		d = grow(t, d, elementS(1, "p"))
	}
	return d
}

func TestListsHaveALimit(t *testing.T) {
	d := full(t)
	for _, x := range []api.Change{element(0, "p"), text(0, "t"), ahead(element(0, "p"), 1), elementS(1, "p"), textS(1, "t"), moved(13, 0, -1), moved(13, 0, 12)} {
		checkRefused(t, d, x, api.ErrMany)
	}
	for _, x := range []api.Change{ahead(element(0, "p"), 13), ahead(text(0, "t"), 0), moved(13, 0, 14), moved(13, 0, 99)} {
		checkRefused(t, d, x, api.ErrFit)
	}
	checkMade(t, d, moved(1, 0, -1), 1, map[int]api.Node{0: kids(d, 0, 2, 3, 4, 5, 6, 7, 8, 9, 10, 11, 12, 1)})
	checkMade(t, d, moved(12, 0, 1), 12, map[int]api.Node{0: kids(d, 0, 12, 1, 2, 3, 4, 5, 6, 7, 8, 9, 10, 11)})
	d = grow(t, d, element(1, "p"), moved(24, 1, -1), elementS(1, "p"), moved(2, 1, 24), moved(24, 0, 3))
	checkRefused(t, d, moved(2, 0, -1), api.ErrMany)
}

func TestNodesHaveALimit(t *testing.T) {
	d := full(t)
	for up := 2; len(d) < api.MaxNodes; up++ {
		for i := 0; i < api.MaxKids && len(d) < api.MaxNodes; i++ {
			d = grow(t, d, text(up, ""))
		}
	}
	const free = 5 // nothing is in it, so that its list has room
	for _, x := range []api.Change{element(free, "p"), text(free, "t"), ahead(element(free, "p"), 99), ahead(text(free, "t"), 0)} {
		checkRefused(t, d, x, api.ErrMany)
	}
	checkRefused(t, d, element(free, "P"), api.ErrName)
	checkRefused(t, d, text(free, long(61)), api.ErrMuch)
	checkRefused(t, d, elementS(free, "p"), api.ErrFit)
	y := grow(t, d, removed(30))
	if _, n, err := Apply(y, text(free, "t")); n != 30 || err != api.OK {
		t.Errorf("node %d, error %d come, not 30", n, err)
	}
	checkRefused(t, y, ahead(text(free, "t"), 99), api.ErrFit)
	checkRefused(t, grow(t, y, text(free, "t")), text(free, "t"), api.ErrMany)
	grow(t, d, moved(59, free, -1), removed(59), text(free, "t"))
}

// chain is nodes 1 to n, each in the one before it.
func chain(t *testing.T, n int) api.Doc {
	d := New()
	for i := range n {
		d = grow(t, d, element(i, "p"))
	}
	return d
}

func TestDepthHasALimit(t *testing.T) {
	d := chain(t, api.MaxDeep)
	if Deep(d, api.MaxDeep) != api.MaxDeep {
		t.Fatalf("the last one is %d deep", Deep(d, api.MaxDeep))
	}
	for _, x := range []api.Change{element(16, "p"), text(16, "t")} {
		checkRefused(t, d, x, api.ErrRange)
	}
	checkRefused(t, d, ahead(element(16, "p"), 3), api.ErrFit)
	d = grow(t, d, text(15, "t"), shadow(15), textS(15, "t"), shadow(16))
	for _, x := range []api.Change{elementS(16, "p"), textS(16, "t"), moved(17, 16, -1), moved(18, 16, -1)} {
		checkRefused(t, d, x, api.ErrRange)
	}
}

func TestAFullListIsToldAheadOfDepth(t *testing.T) {
	d := grow(t, chain(t, 15), element(0, "q"), element(16, "q"))
	for range api.MaxKids - 1 {
		d = grow(t, d, text(15, "t"))
	}
	checkRefused(t, d, moved(16, 15, -1), api.ErrRange)
	d = grow(t, d, text(15, "t"))
	checkRefused(t, d, moved(16, 15, -1), api.ErrMany)
	checkRefused(t, d, moved(16, 15, 17), api.ErrFit)
}

func TestDepthOfWhatIsMoved(t *testing.T) {
	d := grow(t, chain(t, 12), element(0, "q"), element(13, "q"), shadow(14), elementS(14, "q"), textS(14, "t"), text(15, "deep"))
	// 17 is three levels below 13: in 15, which is in the shadow tree of 14
	if got := All(d, 13); !slices.Equal(got, []int{13, 14, 15, 17, 16}) {
		t.Fatalf("13 has %v", got)
	}
	for to := 1; to <= 12; to++ {
		want := api.OK
		if to+4 > api.MaxDeep {
			want = api.ErrRange
		}
		if y, _, err := Apply(d, moved(13, to, -1)); err != want {
			t.Errorf("13 in %d: error %d, not %d", to, err, want)
		} else if err == api.OK {
			checkTree(t, y)
		}
	}
	d = grow(t, d, element(12, "p"), element(18, "p"), element(19, "p"), element(20, "p"))
	for to, want := range map[int]api.Errno{12: api.OK, 18: api.OK, 19: api.OK, 20: api.OK, 21: api.ErrRange} {
		if _, _, err := Apply(d, moved(17, to, -1)); err != want {
			t.Errorf("17 in %d: error %d, not %d", to, err, want)
		}
	}
}

// TestItStaysATree makes many changes, good and bad ones, by a rule that is always the same.
func TestItStaysATree(t *testing.T) {
	names := []string{"p", "slot", "id", "class", "name", "Bad", "", "b1"}
	values := []string{"", "x", " a b ", long(60), long(61)}
	state := uint64(1)
	next := func(n int) int {
		state = state*6364136223846793005 + 1442695040888963407
		return int(state>>33) % n
	}
	var told [api.ErrLoop + 1]int
	for range 20 {
		d := New()
		for range 400 {
			x := api.Change{Kind: next(11) + next(2), Node: next(len(d)+2) - 1, To: next(len(d)+1) - 1, Before: -1, Name: names[next(len(names))], Value: values[next(len(values))]}
			if x.Kind == api.ChgRemove && next(12) > 0 {
				x.Kind = api.ChgMake
			}
			if next(3) == 0 {
				x.Before = next(len(d) + 1)
			}
			if next(4) == 0 {
				x.Node = 0
			}
			y, n, err := apply(t, d, x)
			told[err]++
			if err != api.OK {
				if len(y) != 0 || n != 0 {
					t.Fatalf("%+v: beside error %d, %d and %d nodes", x, err, n, len(y))
				}
				continue
			}
			checkTree(t, y)
			d = y
		}
	}
	for err, n := range told {
		if never := err == int(api.ErrForm) || err == int(api.ErrRange); n == 0 && !never {
			t.Errorf("error %d is never told: %v", err, told)
		}
	}
}

func TestTwiceTheSame(t *testing.T) {
	d := page(t)
	for kind := api.ChgMake; kind <= api.ChgTextS; kind++ {
		for n := range d {
			x := api.Change{Kind: kind, Node: n, To: 1, Before: -1, Name: "id", Value: "x"}
			y, at, err := Apply(d, x)
			z, at2, err2 := Apply(d, x)
			if !same(y, z) || at != at2 || err != err2 {
				t.Errorf("%+v: two answers differ", x)
			}
		}
	}
}
