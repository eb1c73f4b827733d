package role

import (
	"slices"
	"testing"

	"townreader/api"
	"townreader/dom"
)

func element(up int, tag string) api.Change {
	return api.Change{Kind: api.ChgMake, Node: up, Before: -1, Name: tag}
}

func text(up int, value string) api.Change {
	return api.Change{Kind: api.ChgText, Node: up, Before: -1, Value: value}
}

func elementS(up int, tag string) api.Change {
	return api.Change{Kind: api.ChgMakeS, Node: up, Before: -1, Name: tag}
}

func textS(up int, value string) api.Change {
	return api.Change{Kind: api.ChgTextS, Node: up, Before: -1, Value: value}
}

func moved(n, to, before int) api.Change {
	return api.Change{Kind: api.ChgMove, Node: n, To: to, Before: before}
}

func removed(n int) api.Change { return api.Change{Kind: api.ChgRemove, Node: n} }

func attr(n int, name, value string) api.Change {
	return api.Change{Kind: api.ChgAttr, Node: n, Name: name, Value: value}
}

func cleared(n int, name string) api.Change {
	return api.Change{Kind: api.ChgClear, Node: n, Name: name}
}

func shadow(n int) api.Change { return api.Change{Kind: api.ChgShadow, Node: n} }

// grow makes all changes, none of which may be refused.
func grow(t *testing.T, d api.Doc, l ...api.Change) api.Doc {
	t.Helper()
	for i, x := range l {
		y, _, err := dom.Apply(d, x)
		if err != api.OK {
			t.Fatalf("change %d, %+v, is refused: %d", i, x, err)
		}
		d = y
	}
	return d
}

func build(t *testing.T, l ...api.Change) api.Doc {
	t.Helper()
	return grow(t, dom.New(), l...)
}

// one is node 1, of that tag, in the root, with attributes: name, value, name, value, and so on.
func one(t *testing.T, tag string, attrs ...string) api.Doc {
	t.Helper()
	return with(t, build(t, element(0, tag)), 1, attrs...)
}

func with(t *testing.T, d api.Doc, n int, attrs ...string) api.Doc {
	t.Helper()
	for i := 0; i < len(attrs); i += 2 {
		d = grow(t, d, attr(n, attrs[i], attrs[i+1]))
	}
	return d
}

// chain is nodes 1, 2, and so on, of these tags, each in the one before it.
func chain(t *testing.T, tags ...string) api.Doc {
	t.Helper()
	d := dom.New()
	for i, tag := range tags {
		d = grow(t, d, element(i, tag))
	}
	return d
}

func checkLabelled(t *testing.T, d api.Doc, n int, want bool) {
	t.Helper()
	if got := Labelled(d, n); got != want {
		t.Errorf("Labelled(%d) = %v, not %v: %+v", n, got, want, d)
	}
}

func checkOf(t *testing.T, d api.Doc, n, want int) {
	t.Helper()
	if got := Of(d, n); got != want {
		t.Errorf("Of(%d) = %d, not %d: %+v", n, got, want, d)
	}
}

// checkRoles asks for the roles of nodes 1, 2, and so on.
func checkRoles(t *testing.T, d api.Doc, want ...int) {
	t.Helper()
	for i, role := range want {
		checkOf(t, d, i+1, role)
	}
}

func checkHidden(t *testing.T, d api.Doc, n int, want bool) {
	t.Helper()
	if got := Hidden(d, n); got != want {
		t.Errorf("Hidden(%d) = %v, not %v: %+v", n, got, want, d)
	}
}

// rule answers numbers below n, one after the other, always the same ones.
func rule(state uint64) func(n int) int {
	return func(n int) int {
		state = state*6364136223846793005 + 1442695040888963407
		return int(state>>33) % n
	}
}

// grown is a document with shadow trees, with many elements that need others, and with attributes on which roles hang.
func grown(next func(n int) int) api.Doc {
	kinds := []int{api.ChgMake, api.ChgMake, api.ChgMake, api.ChgText, api.ChgMove, api.ChgMakeS, api.ChgMakeS, api.ChgTextS, api.ChgShadow, api.ChgAttr, api.ChgAttr, api.ChgAttr}
	tags := []string{"slot", "slot", "ul", "li", "li", "table", "tr", "td", "div", "a", "input", "img", "section", "h2"}
	attrs := []api.Attr{
		{Name: "role", Value: "none"}, {Name: "role", Value: "zz LIST"}, {Name: "role", Value: "\tRow none"}, {Name: "role", Value: "presentation cell"}, {Name: "role", Value: "text generic"}, {Name: "role", Value: "group"},
		{Name: "aria-label", Value: "x"}, {Name: "aria-label", Value: " \n"}, {Name: "aria-labelledby", Value: " zz "},
		{Name: "hidden"}, {Name: "aria-hidden", Value: " True"}, {Name: "aria-hidden", Value: "false"},
		{Name: "href"}, {Name: "type", Value: " CHECKBOX"}, {Name: "alt", Value: "\r"}, {Name: "alt", Value: "a"}, {Name: "title", Value: " "}, {Name: "title", Value: "t"},
		{Name: "slot", Value: "s"}, {Name: "name", Value: "s"},
	}
	d := dom.New()
	for range 40 + next(120) {
		x := api.Change{Kind: kinds[next(len(kinds))], Node: max(next(len(d)), next(len(d))), To: next(len(d)), Before: -1, Name: tags[next(len(tags))]}
		switch {
		case x.Kind == api.ChgMake && next(2) == 0:
			x.Name = inside(d[x.Node].Tag, x.Name)
		case x.Kind == api.ChgAttr:
			a := attrs[next(len(attrs))]
			x.Name, x.Value = a.Name, a.Value
		case x.Kind == api.ChgMove && next(4) == 0:
			x.Kind = api.ChgRemove
		}
		if y, _, err := dom.Apply(d, x); err == api.OK {
			d = y
		}
	}
	return d
}

// inside is the tag that needs this one around it, else other.
func inside(tag, other string) string {
	switch tag {
	case "ul":
		return "li"
	case "table":
		return "tr"
	case "tr":
		return "td"
	}
	return other
}

func sameNode(a, b api.Node) bool {
	return a.Live == b.Live && a.Tag == b.Tag && a.Text == b.Text && a.Up == b.Up && a.HasS == b.HasS && a.InS == b.InS &&
		slices.Equal(a.Attrs, b.Attrs) && slices.Equal(a.Kids, b.Kids) && slices.Equal(a.Shadow, b.Shadow)
}

func same(a, b api.Doc) bool { return slices.EqualFunc(a, b, sameNode) }

// roomy is d with room behind each of its lists, in which stands what would be told if it were looked at.
func roomy(d api.Doc) api.Doc {
	ints := func(l []int) []int { return append(append(make([]int, 0, len(l)+2), l...), 1, 2)[:len(l)] }
	var out api.Doc
	for _, n := range d {
		n.Attrs = append(append([]api.Attr(nil), n.Attrs...), api.Attr{Name: "role", Value: "dialog"})[:len(n.Attrs)]
		n.Kids, n.Shadow = ints(n.Kids), ints(n.Shadow)
		out = append(out, n)
	}
	return append(out, api.Node{Live: true, Tag: "dialog", Up: 0})[:len(d)]
}

// whole is d with the room behind each of its lists.
func whole(d api.Doc) api.Doc {
	out := dom.Own(d[:len(d)+1])
	for i, n := range d {
		out[i].Attrs = slices.Clone(n.Attrs[:len(n.Attrs)+1])
		out[i].Kids = slices.Clone(n.Kids[:len(n.Kids)+2])
		out[i].Shadow = slices.Clone(n.Shadow[:len(n.Shadow)+2])
	}
	return out
}
