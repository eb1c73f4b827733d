package naming

import (
	"slices"
	"strings"
	"testing"

	"townreader/api"
	"townreader/dom"
	"townreader/owns"
)

func element(up int, tag string) api.Change {
	return api.Change{Kind: api.ChgMake, Node: up, Before: -1, Name: tag}
}

func text(up int, value string) api.Change {
	return api.Change{Kind: api.ChgText, Node: up, Before: -1, Value: value}
}

func elementS(up int, tag string) api.Change {
	return api.Change{Kind: api.ChgMakeS, Node: up, Before: -1, Name: tag}
}

func textS(up int, value string) api.Change {
	return api.Change{Kind: api.ChgTextS, Node: up, Before: -1, Value: value}
}

func moved(n, to, before int) api.Change {
	return api.Change{Kind: api.ChgMove, Node: n, To: to, Before: before}
}

func removed(n int) api.Change { return api.Change{Kind: api.ChgRemove, Node: n} }

func attr(n int, name, value string) api.Change {
	return api.Change{Kind: api.ChgAttr, Node: n, Name: name, Value: value}
}

func id(n int, value string) api.Change { return attr(n, "id", value) }

func labelledby(n int, ids string) api.Change { return attr(n, "aria-labelledby", ids) }

func describedby(n int, ids string) api.Change { return attr(n, "aria-describedby", ids) }

func hidden(n int) api.Change { return attr(n, "hidden", "") }

func cleared(n int, name string) api.Change {
	return api.Change{Kind: api.ChgClear, Node: n, Name: name}
}

func shadow(n int) api.Change { return api.Change{Kind: api.ChgShadow, Node: n} }

// grow makes all changes, none of which may be refused.
func grow(t *testing.T, d api.Doc, l ...api.Change) api.Doc {
	t.Helper()
	for i, x := range l {
		y, _, err := dom.Apply(d, x)
		if err != api.OK {
			t.Fatalf("change %d, %+v, is refused: %d", i, x, err)
		}
		d = y
	}
	return d
}

func build(t *testing.T, l ...api.Change) api.Doc {
	t.Helper()
	return grow(t, dom.New(), l...)
}

// with is d with these attributes of node n: name, value, name, value, and so on.
func with(t *testing.T, d api.Doc, n int, attrs ...string) api.Doc {
	t.Helper()
	for i := 0; i < len(attrs); i += 2 {
		d = grow(t, d, attr(n, attrs[i], attrs[i+1]))
	}
	return d
}

// one is node 1, of that tag, in the root, and in it node 2, the text `in it`; 3, `div`, and in it 4, the text `beside`, has the id x.
func one(t *testing.T, tag string, attrs ...string) api.Doc {
	t.Helper()
	d := build(t, element(0, tag), text(1, " in\tit "), element(0, "div"), text(3, "beside"), id(3, "x"))
	return with(t, d, 1, attrs...)
}

func of(d api.Doc, n int) api.Memo { return Of(d, owns.Claims(d), n) }

func checkMemo(t *testing.T, d api.Doc, n int, name, about string, uses ...int) {
	t.Helper()
	want := api.Memo{Node: n, Name: name, About: about, Uses: uses}
	if got := of(d, n); !sameMemo(got, want) {
		t.Errorf("Of(%d) = %+v, not %+v: %+v", n, got, want, d)
	}
}

func checkName(t *testing.T, d api.Doc, n int, want string) {
	t.Helper()
	if got := of(d, n).Name; got != want {
		t.Errorf("Name of %d = %q, not %q: %+v", n, got, want, d)
	}
}

func checkAbout(t *testing.T, d api.Doc, n int, want string) {
	t.Helper()
	if got := of(d, n).About; got != want {
		t.Errorf("About of %d = %q, not %q: %+v", n, got, want, d)
	}
}

func checkUses(t *testing.T, d api.Doc, n int, want ...int) {
	t.Helper()
	if got := of(d, n).Uses; !slices.Equal(got, want) {
		t.Errorf("Uses of %d = %v, not %v: %+v", n, got, want, d)
	}
}

func sameMemo(a, b api.Memo) bool {
	return a.Node == b.Node && a.Name == b.Name && a.About == b.About && slices.Equal(a.Uses, b.Uses)
}

// rule answers numbers below n, one after the other, always the same ones.
func rule(state uint64) func(n int) int {
	return func(n int) int {
		state = state*6364136223846793005 + 1442695040888963407
		return int(state>>33) % n
	}
}

// grown is a document with shadow trees, with many that list, label, own or hide others, and with all that names come of.
func grown(next func(n int) int) api.Doc {
	kinds := []int{api.ChgMake, api.ChgMake, api.ChgMake, api.ChgText, api.ChgText, api.ChgMove, api.ChgMakeS, api.ChgTextS, api.ChgShadow, api.ChgAttr, api.ChgAttr, api.ChgAttr, api.ChgAttr, api.ChgAttr}
	tags := []string{"slot", "div", "button", "button", "h1", "input", "input", "label", "label", "label", "img", "section", "nav", "table", "ul", "li", "a"}
	d := dom.New()
	for range 40 + next(160) {
		x := api.Change{Kind: kinds[next(len(kinds))], Node: max(next(len(d)), next(len(d))), To: next(len(d)), Before: -1, Name: tags[next(len(tags))]}
		x.Value = []string{"a", " b  c ", "", "\n", "d\te"}[next(5)]
		switch {
		case x.Kind == api.ChgAttr:
			x.Name, x.Value = someAttr(next)
		case x.Kind == api.ChgMove && next(4) == 0:
			x.Kind = api.ChgRemove
		}
		if y, _, err := dom.Apply(d, x); err == api.OK {
			d = y
		}
	}
	return d
}

func someAttr(next func(n int) int) (string, string) {
	ids := []string{"i", "j", "k", "l", "m"}
	list := func() string {
		var l []string
		for range 1 + next(4) {
			l = append(l, ids[next(len(ids))])
		}
		return strings.Join(l, []string{" ", "\t", "  "}[next(3)])
	}
	switch next(8) {
	case 0, 1:
		return "id", ids[next(len(ids))]
	case 2:
		return "for", ids[next(len(ids))]
	case 3:
		return []string{"aria-labelledby", "aria-labelledby", "aria-describedby", "aria-describedby", "aria-owns"}[next(5)], list()
	case 4, 5:
		return somePlain(next)
	}
	some := []api.Attr{
		{Name: "hidden"}, {Name: "aria-hidden", Value: "TRUE"}, {Name: "href"}, {Name: "type", Value: "checkbox"},
		{Name: "role", Value: "textbox"}, {Name: "role", Value: "none"}, {Name: "role", Value: "heading"}, {Name: "role", Value: "checkbox"}, {Name: "role", Value: "row"},
		{Name: "slot", Value: "s"}, {Name: "name", Value: "s"},
	}
	a := some[next(len(some))]
	return a.Name, a.Value
}

// somePlain is an attribute that neither lists anything nor says where a node is.
func somePlain(next func(n int) int) (string, string) {
	names := []string{"alt", "aria-label", "title", "title", "value", "aria-level", "aria-checked", "aria-disabled", "checked"}
	values := []string{"v", " w  x", "y", "", " "}
	return names[next(len(names))], values[next(len(values))]
}

func sameNode(a, b api.Node) bool {
	return a.Live == b.Live && a.Tag == b.Tag && a.Text == b.Text && a.Up == b.Up && a.HasS == b.HasS && a.InS == b.InS &&
		slices.Equal(a.Attrs, b.Attrs) && slices.Equal(a.Kids, b.Kids) && slices.Equal(a.Shadow, b.Shadow)
}

func same(a, b api.Doc) bool { return slices.EqualFunc(a, b, sameNode) }

// roomy is d with room behind each of its lists, in which stands what would be told if it were looked at.
func roomy(d api.Doc) api.Doc {
	ints := func(l []int) []int { return append(append(make([]int, 0, len(l)+2), l...), 1, 2)[:len(l)] }
	var out api.Doc
	for _, n := range d {
		n.Attrs = append(append([]api.Attr(nil), n.Attrs...), api.Attr{Name: "title", Value: "unseen"})[:len(n.Attrs)]
		n.Kids, n.Shadow = ints(n.Kids), ints(n.Shadow)
		out = append(out, n)
	}
	return append(out, api.Node{Live: true, Tag: "label", Up: 0, Attrs: []api.Attr{{Name: "for", Value: "i"}, {Name: "id", Value: "i"}}})[:len(d)]
}

// whole is d with the room behind each of its lists.
func whole(d api.Doc) api.Doc {
	out := dom.Own(d[:len(d)+1])
	for i, n := range d {
		out[i].Attrs = slices.Clone(n.Attrs[:len(n.Attrs)+1])
		out[i].Kids = slices.Clone(n.Kids[:len(n.Kids)+2])
		out[i].Shadow = slices.Clone(n.Shadow[:len(n.Shadow)+2])
	}
	return out
}

// roomyClaims is l with room behind it, in which each node of d is claimed by the root.
func roomyClaims(d api.Doc, l []api.Claim) []api.Claim {
	out := slices.Clone(l)
	for n := range d {
		out = append(out, api.Claim{Owner: 0, Kid: n})
	}
	return out[:len(l)]
}
