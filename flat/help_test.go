package flat

import (
	"slices"
	"testing"

	"townreader/api"
	"townreader/dom"
)

func element(up int, tag string) api.Change {
	return api.Change{Kind: api.ChgMake, Node: up, Before: -1, Name: tag}
}

func text(up int, value string) api.Change {
	return api.Change{Kind: api.ChgText, Node: up, Before: -1, Value: value}
}

func elementS(up int, tag string) api.Change {
	return api.Change{Kind: api.ChgMakeS, Node: up, Before: -1, Name: tag}
}

func textS(up int, value string) api.Change {
	return api.Change{Kind: api.ChgTextS, Node: up, Before: -1, Value: value}
}

func moved(n, to, before int) api.Change {
	return api.Change{Kind: api.ChgMove, Node: n, To: to, Before: before}
}

func removed(n int) api.Change { return api.Change{Kind: api.ChgRemove, Node: n} }

func attr(n int, name, value string) api.Change {
	return api.Change{Kind: api.ChgAttr, Node: n, Name: name, Value: value}
}

func cleared(n int, name string) api.Change {
	return api.Change{Kind: api.ChgClear, Node: n, Name: name}
}

func shadow(n int) api.Change { return api.Change{Kind: api.ChgShadow, Node: n} }

// grow makes all changes, none of which may be refused.
func grow(t *testing.T, d api.Doc, l ...api.Change) api.Doc {
	t.Helper()
	for i, x := range l {
		y, _, err := dom.Apply(d, x)
		if err != api.OK {
			t.Fatalf("change %d, %+v, is refused: %d", i, x, err)
		}
		d = y
	}
	return d
}

func build(t *testing.T, l ...api.Change) api.Doc {
	t.Helper()
	return grow(t, dom.New(), l...)
}

// page has a shadow tree within a shadow tree, slots in each of them and in none, and a number that is not Live (18).
func page(t *testing.T) api.Doc {
	t.Helper()
	return build(t,
		element(0, "x-card"), // 1
		element(1, "button"), // 2
		text(1, "loose"),     // 3
		element(1, "img"),    // 4
		element(1, "slot"),   // 5
		element(1, "p"),      // 6
		element(1, "b"),      // 7
		shadow(1),
		elementS(1, "section"), // 8
		element(8, "slot"),     // 9
		text(9, "fallback"),    // 10
		element(8, "x-in"),     // 11
		shadow(11),
		elementS(11, "slot"),  // 12
		elementS(11, "slot"),  // 13
		element(11, "slot"),   // 14
		text(14, "fallback"),  // 15
		element(8, "slot"),    // 16
		text(16, "fallback"),  // 17
		text(0, "goes"),       // 18
		element(0, "slot"),    // 19
		text(19, "by itself"), // 20
		element(0, "x-empty"), // 21
		element(21, "p"),      // 22
		text(22, "unseen"),    // 23
		shadow(21),
		attr(2, "slot", "s"),
		attr(4, "slot", "nowhere"),
		attr(5, "name", "s"),
		attr(6, "slot", ""),
		attr(7, "slot", "s"),
		attr(8, "slot", "s"), // it is in a shadow tree
		attr(8, "name", "nowhere"),
		attr(9, "name", "s"),
		attr(11, "slot", "s"), // what it is in has no shadow tree
		attr(13, "name", "s"),
		attr(14, "name", ""),
		attr(16, "name", "s"), // not the first one
		removed(18))
}

// rule answers numbers below n, one after the other, always the same ones.
func rule(state uint64) func(n int) int {
	return func(n int) int {
		state = state*6364136223846793005 + 1442695040888963407
		return int(state>>33) % n
	}
}

// grown is a document with many slots and, if that is asked, many shadow trees.
func grown(next func(n int) int, shadows bool) api.Doc {
	kinds := []int{api.ChgMake, api.ChgMake, api.ChgText, api.ChgMove, api.ChgMakeS, api.ChgMakeS, api.ChgTextS, api.ChgShadow, api.ChgAttr, api.ChgAttr}
	tags := []string{"slot", "slot", "p", "x-a", "x-b"}
	values := []string{"", "a", "b"}
	d := dom.New()
	for range 60 + next(120) {
		x := api.Change{Kind: kinds[next(len(kinds))], Node: next(len(d)), To: next(len(d)), Before: -1, Name: tags[next(len(tags))], Value: values[next(len(values))]}
		if next(2) == 0 {
			x.Node = hostNear(d, x.Node)
		}
		switch {
		case x.Kind == api.ChgAttr:
			x.Name = []string{"name", "slot"}[next(2)]
		case x.Kind == api.ChgShadow && !shadows:
			x.Kind = api.ChgMake
		case x.Kind == api.ChgMove && next(6) == 0:
			x.Kind = api.ChgRemove
		}
		if y, _, err := dom.Apply(d, x); err == api.OK {
			d = y
		}
	}
	return d
}

// hostNear is n, or the first node behind it that has a shadow tree.
func hostNear(d api.Doc, n int) int {
	return n + max(0, slices.IndexFunc(d[n:], func(k api.Node) bool { return k.HasS }))
}

func sameNode(a, b api.Node) bool {
	return a.Live == b.Live && a.Tag == b.Tag && a.Text == b.Text && a.Up == b.Up && a.HasS == b.HasS && a.InS == b.InS &&
		slices.Equal(a.Attrs, b.Attrs) && slices.Equal(a.Kids, b.Kids) && slices.Equal(a.Shadow, b.Shadow)
}

func same(a, b api.Doc) bool { return slices.EqualFunc(a, b, sameNode) }

// roomy is d with room behind each of its lists, in which stands what would be told if it were looked at.
func roomy(d api.Doc) api.Doc {
	ints := func(l []int) []int { return append(append(make([]int, 0, len(l)+2), l...), 1, 2)[:len(l)] }
	var out api.Doc
	for _, n := range d {
		n.Attrs = append(append([]api.Attr(nil), n.Attrs...), api.Attr{Name: "slot", Value: "s"})[:len(n.Attrs)]
		n.Kids, n.Shadow = ints(n.Kids), ints(n.Shadow)
		out = append(out, n)
	}
	return append(out, api.Node{Live: true, Tag: "slot", Up: 0})[:len(d)]
}

// whole is d with the room behind each of its lists.
func whole(d api.Doc) api.Doc {
	out := dom.Own(d[:len(d)+1])
	for i, n := range d {
		out[i].Attrs = slices.Clone(n.Attrs[:len(n.Attrs)+1])
		out[i].Kids = slices.Clone(n.Kids[:len(n.Kids)+2])
		out[i].Shadow = slices.Clone(n.Shadow[:len(n.Shadow)+2])
	}
	return out
}

// spoil writes into a list, and into the room behind it.
func spoil(l []int) {
	l = l[:cap(l)]
	for i := range l {
		l[i] = 99
	}
}
