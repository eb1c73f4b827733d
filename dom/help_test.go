package dom

import (
	"slices"
	"strings"
	"testing"

	"townreader/api"
	"townreader/words"
)

func element(up int, tag string) api.Change {
	return api.Change{Kind: api.ChgMake, Node: up, Before: -1, Name: tag}
}

func text(up int, value string) api.Change {
	return api.Change{Kind: api.ChgText, Node: up, Before: -1, Value: value}
}

func elementS(up int, tag string) api.Change {
	return api.Change{Kind: api.ChgMakeS, Node: up, Before: -1, Name: tag}
}

func textS(up int, value string) api.Change {
	return api.Change{Kind: api.ChgTextS, Node: up, Before: -1, Value: value}
}

func moved(n, to, before int) api.Change {
	return api.Change{Kind: api.ChgMove, Node: n, To: to, Before: before}
}

func removed(n int) api.Change { return api.Change{Kind: api.ChgRemove, Node: n} }

func attr(n int, name, value string) api.Change {
	return api.Change{Kind: api.ChgAttr, Node: n, Name: name, Value: value}
}

func cleared(n int, name string) api.Change {
	return api.Change{Kind: api.ChgClear, Node: n, Name: name}
}

func said(n int, value string) api.Change {
	return api.Change{Kind: api.ChgSay, Node: n, Value: value}
}

func shadow(n int) api.Change { return api.Change{Kind: api.ChgShadow, Node: n} }

func ahead(x api.Change, before int) api.Change {
	x.Before = before
	return x
}

// grow makes all changes, none of which may be refused.
func grow(t *testing.T, d api.Doc, l ...api.Change) api.Doc {
	t.Helper()
	for i, x := range l {
		y, _, err := Apply(d, x)
		if err != api.OK {
			t.Fatalf("change %d, %+v, is refused: %d", i, x, err)
		}
		checkTree(t, y)
		d = y
	}
	return d
}

func build(t *testing.T, l ...api.Change) api.Doc {
	t.Helper()
	return grow(t, New(), l...)
}

// page has a shadow tree within a shadow tree, a number that is not Live (3), and each of its ids more than once.
func page(t *testing.T) api.Doc {
	t.Helper()
	return build(t,
		element(0, "ul"),    // 1
		element(1, "li"),    // 2
		text(1, "goes"),     // 3
		text(2, " one "),    // 4
		element(0, "x-out"), // 5
		shadow(5),
		element(5, "b"),      // 6
		elementS(5, "x-in"),  // 7
		textS(5, "shade"),    // 8
		element(7, "i"),      // 9
		shadow(7),            //
		elementS(7, "p"),     // 10
		element(10, "slot"),  // 11
		text(11, "fallback"), // 12
		attr(6, "id", "x"),
		attr(2, "id", "y"),
		attr(5, "id", "x"),
		attr(10, "id", "y"),
		attr(9, "id", "x"),
		attr(11, "id", "z"),
		attr(1, "id", ""),
		attr(2, "class", " A b "),
		removed(3))
}

func sameNode(a, b api.Node) bool {
	return a.Live == b.Live && a.Tag == b.Tag && a.Text == b.Text && a.Up == b.Up && a.HasS == b.HasS && a.InS == b.InS &&
		slices.Equal(a.Attrs, b.Attrs) && slices.Equal(a.Kids, b.Kids) && slices.Equal(a.Shadow, b.Shadow)
}

func same(a, b api.Doc) bool { return slices.EqualFunc(a, b, sameNode) }

// roomy is d with marked room behind each of its lists.
func roomy(d api.Doc) api.Doc {
	out := make(api.Doc, 0, len(d)+3)
	ints := func(l []int) []int { return append(append(make([]int, 0, len(l)+3), l...), -7, -7, -7)[:len(l)] }
	mark := api.Attr{Name: "mark", Value: "mark"}
	for _, n := range d {
		n.Attrs = append(append(make([]api.Attr, 0, len(n.Attrs)+2), n.Attrs...), mark, mark)[:len(n.Attrs)]
		n.Kids, n.Shadow = ints(n.Kids), ints(n.Shadow)
		out = append(out, n)
	}
	return append(out, markedNode(), markedNode(), markedNode())[:len(d)]
}

func markedNode() api.Node { return api.Node{Live: true, Tag: "mark", Up: -7} }

// checkRoom says whether d, which roomy made of was, is still was, with its marks.
func checkRoom(t *testing.T, d, was api.Doc) {
	t.Helper()
	if !same(d, was) {
		t.Errorf("what was handed in is changed: %+v, not %+v", d, was)
	}
	for _, n := range d[len(d) : len(d)+3] {
		if !sameNode(n, markedNode()) {
			t.Errorf("the room behind nodes is changed: %+v", n)
		}
	}
	for _, n := range d {
		for _, l := range [][]int{n.Kids, n.Shadow} {
			if !slices.Equal(l[len(l):len(l)+3], []int{-7, -7, -7}) {
				t.Errorf("the room behind a list is changed: %v", l[:len(l)+3])
			}
		}
		for _, a := range n.Attrs[len(n.Attrs) : len(n.Attrs)+2] {
			if a.Name != "mark" || a.Value != "mark" {
				t.Errorf("the room behind attributes is changed: %v", a)
			}
		}
	}
}

// spoil writes into all that d is made of, the room behind its lists too; each list has marks of its own, and keeps them.
func spoil(t *testing.T, d api.Doc) {
	t.Helper()
	d = d[:cap(d)]
	next := 1000
	var checks []func() bool
	fill := func(l []int) {
		l = l[:cap(l)]
		first := next
		for i := range l {
			l[i] = next
			next++
		}
		checks = append(checks, func() bool { return len(l) == 0 || l[0] == first && l[len(l)-1] == first+len(l)-1 })
	}
	for i := range d {
		fill(d[i].Kids)
		fill(d[i].Shadow)
		attrs := d[i].Attrs[:cap(d[i].Attrs)]
		for k := range attrs {
			attrs[k] = api.Attr{Name: "spoilt", Value: strings.Repeat("x", i)}
		}
		checks = append(checks, func() bool { return len(attrs) == 0 || len(attrs[0].Value) == i })
	}
	for _, ok := range checks {
		if !ok() {
			t.Errorf("two lists of one document share memory")
		}
	}
	for i := range d {
		d[i] = api.Node{Tag: "spoilt", Up: 99}
	}
}

// checkTree says whether d is as documents are: a tree, within the limits.
func checkTree(t *testing.T, d api.Doc) {
	t.Helper()
	if len(d) == 0 || len(d) > api.MaxNodes || !d[len(d)-1].Live {
		t.Fatalf("%d nodes, or the last one is not Live", len(d))
	}
	if r := d[0]; !r.Live || r.Tag != "main" || r.Text != "" || r.Up != -1 || r.HasS || r.InS {
		t.Errorf("the root is %+v", r)
	}
	places := make([]int, len(d))
	for n := range d {
		for _, inS := range []bool{false, true} {
			l := d[n].Kids
			if inS {
				l = d[n].Shadow
			}
			if len(l) > api.MaxKids {
				t.Errorf("node %d has a list of %d", n, len(l))
			}
			for _, k := range l {
				if k < 1 || k >= len(d) || !d[k].Live || d[k].Up != n || d[k].InS != inS {
					t.Fatalf("node %d has %d in a list where it does not belong", n, k)
				}
				places[k]++
			}
		}
		checkNode(t, n, d[n])
	}
	live := 0
	for n := range d {
		want := 0
		if d[n].Live {
			live++
			want = min(n, 1)
		}
		if places[n] != want {
			t.Errorf("node %d stands in %d places", n, places[n])
		}
		if deep := Deep(d, n); deep > api.MaxDeep {
			t.Errorf("node %d is %d deep", n, deep)
		}
	}
	if all := All(d, 0); len(all) != live {
		t.Errorf("%d nodes are Live, and All has %v", live, all)
	}
}

func checkNode(t *testing.T, at int, n api.Node) {
	t.Helper()
	ok := len(n.Attrs) <= api.MaxAttrs && len(n.Text) <= api.MaxText && (n.HasS || len(n.Shadow) == 0)
	switch {
	case !n.Live:
		ok = sameNode(n, api.Node{})
	case n.Tag == "":
		ok = ok && len(n.Attrs) == 0 && len(n.Kids) == 0 && !n.HasS
	default:
		ok = ok && n.Text == "" && words.Name(n.Tag) && (n.Tag != "slot" || !n.HasS)
	}
	for i, a := range n.Attrs {
		ok = ok && words.Name(a.Name) && len(a.Value) <= api.MaxText && (i == 0 || n.Attrs[i-1].Name < a.Name)
	}
	if !ok {
		t.Errorf("node %d is not as nodes are: %+v", at, n)
	}
}
