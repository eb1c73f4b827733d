package tree

import (
	"slices"
	"strconv"
	"strings"
	"testing"

	"townreader/api"
	"townreader/dom"
	"townreader/owns"
)

func element(up int, tag string) api.Change {
	return api.Change{Kind: api.ChgMake, Node: up, Before: -1, Name: tag}
}

func text(up int, value string) api.Change {
	return api.Change{Kind: api.ChgText, Node: up, Before: -1, Value: value}
}

func elementS(up int, tag string) api.Change {
	return api.Change{Kind: api.ChgMakeS, Node: up, Before: -1, Name: tag}
}

func textS(up int, value string) api.Change {
	return api.Change{Kind: api.ChgTextS, Node: up, Before: -1, Value: value}
}

func moved(n, to, before int) api.Change {
	return api.Change{Kind: api.ChgMove, Node: n, To: to, Before: before}
}

func removed(n int) api.Change { return api.Change{Kind: api.ChgRemove, Node: n} }

func attr(n int, name, value string) api.Change {
	return api.Change{Kind: api.ChgAttr, Node: n, Name: name, Value: value}
}

func id(n int, value string) api.Change { return attr(n, "id", value) }

func owning(n int, ids string) api.Change { return attr(n, "aria-owns", ids) }

func hidden(n int) api.Change { return attr(n, "hidden", "") }

func cleared(n int, name string) api.Change {
	return api.Change{Kind: api.ChgClear, Node: n, Name: name}
}

func shadow(n int) api.Change { return api.Change{Kind: api.ChgShadow, Node: n} }

// grow makes all changes, none of which may be refused.
func grow(t *testing.T, d api.Doc, l ...api.Change) api.Doc {
	t.Helper()
	for i, x := range l {
		y, _, err := dom.Apply(d, x)
		if err != api.OK {
			t.Fatalf("change %d, %+v, is refused: %d", i, x, err)
		}
		d = y
	}
	return d
}

func build(t *testing.T, l ...api.Change) api.Doc {
	t.Helper()
	return grow(t, dom.New(), l...)
}

// with is d with these attributes of node n: name, value, name, value, and so on.
func with(t *testing.T, d api.Doc, n int, attrs ...string) api.Doc {
	t.Helper()
	for i := 0; i < len(attrs); i += 2 {
		d = grow(t, d, attr(n, attrs[i], attrs[i+1]))
	}
	return d
}

// one is node 1, of that tag, in the root, and in it node 2, the text `in it`.
func one(t *testing.T, tag string, attrs ...string) api.Doc {
	t.Helper()
	return with(t, build(t, element(0, tag), text(1, " in\tit ")), 1, attrs...)
}

func checkLevel(t *testing.T, d api.Doc, n, want int) {
	t.Helper()
	if got := Level(d, owns.Claims(d), n); got != want {
		t.Errorf("Level(%d) = %d, not %d: %+v", n, got, want, d)
	}
}

func checkChecked(t *testing.T, d api.Doc, n, want int) {
	t.Helper()
	if got := Checked(d, n); got != want {
		t.Errorf("Checked(%d) = %d, not %d: %+v", n, got, want, d)
	}
}

// item is what is told of a node of that role that is called so, with these in it.
func item(n, role int, name string, kids ...api.Item) api.Item {
	return api.Item{Node: n, Role: role, Name: name, Kids: kids}
}

func textItem(n int, name string) api.Item { return item(n, api.RoleText, name) }

func mainItem(kids ...api.Item) api.Item { return item(0, api.RoleMain, "", kids...) }

func checkBuild(t *testing.T, d api.Doc, want ...api.Item) {
	t.Helper()
	if got := Build(d); shown(got) != shown(want) {
		t.Errorf("Build = %s, not %s: %+v", shown(got), shown(want), d)
	}
}

func checkItems(t *testing.T, got []api.Item, want ...api.Item) {
	t.Helper()
	if shown(got) != shown(want) {
		t.Errorf("%s, not %s", shown(got), shown(want))
	}
}

// shown tells all fields of items, of nil as of a list without entries.
func shown(l []api.Item) string {
	var out []string
	for _, it := range l {
		parts := []string{strconv.Itoa(it.Node), strconv.Itoa(it.Role), strconv.Quote(it.Name), strconv.Quote(it.About), strconv.Itoa(it.Level), strconv.Itoa(it.Checked), strconv.FormatBool(it.Off), shown(it.Kids)}
		out = append(out, strings.Join(parts, " "))
	}
	return "[" + strings.Join(out, ", ") + "]"
}

// rule answers numbers below n, one after the other, always the same ones.
func rule(state uint64) func(n int) int {
	return func(n int) int {
		state = state*6364136223846793005 + 1442695040888963407
		return int(state>>33) % n
	}
}

// grown is a document with shadow trees, with all roles, with many that own, list or hide others, and with all that items come of.
func grown(next func(n int) int) api.Doc {
	kinds := []int{api.ChgMake, api.ChgMake, api.ChgMake, api.ChgText, api.ChgText, api.ChgMove, api.ChgMakeS, api.ChgTextS, api.ChgShadow, api.ChgAttr, api.ChgAttr, api.ChgAttr}
	tags := []string{"slot", "slot", "div", "div", "p", "button", "h1", "h3", "ul", "ul", "li", "li", "li", "table", "tr", "td", "input", "img", "section", "nav", "a", "label"}
	d := dom.New()
	for range 60 + next(160) {
		x := api.Change{Kind: kinds[next(len(kinds))], Node: max(next(len(d)), next(len(d))), To: next(len(d)), Before: -1, Name: tags[next(len(tags))]}
		x.Value = []string{"a", " b  c ", "", "\n", "d\te"}[next(5)]
		switch {
		case x.Kind == api.ChgAttr:
			x.Name, x.Value = someAttr(next)
			if x.Node == 0 && strings.HasSuffix(x.Name, "hidden") && next(8) > 0 {
				continue // else too many documents are hidden whole
			}
		case x.Kind == api.ChgShadow && next(3) > 0:
			continue // else little is shown
		case x.Kind == api.ChgMakeS && next(2) == 0:
			x.Name = "slot"
		case x.Kind == api.ChgMove && next(4) == 0:
			x.Kind = api.ChgRemove
		}
		if y, _, err := dom.Apply(d, x); err == api.OK {
			d = y
		}
	}
	return d
}

func someAttr(next func(n int) int) (string, string) {
	ids := []string{"i", "j", "k", "l", "m"}
	switch next(5) {
	case 0:
		return "id", ids[next(len(ids))]
	case 1:
		return []string{"aria-owns", "aria-owns", "aria-labelledby", "aria-describedby", "for"}[next(5)], ids[next(len(ids))] + " " + ids[next(len(ids))]
	case 2:
		names := []string{"title", "aria-label", "alt", "aria-level", "aria-checked", "checked", "aria-disabled"}
		values := []string{"v", " w  x", "", "True", "mixed", "3", " 9 ", "0"}
		return names[next(len(names))], values[next(len(values))]
	case 3:
		roles := []string{"none", "heading", "checkbox", "row", "cell", "listitem", "list", "group", "dialog", "link", "generic", "textbox"}
		return "role", roles[next(len(roles))]
	}
	if next(4) == 0 {
		return []string{"hidden", "aria-hidden"}[next(2)], "True"
	}
	some := []api.Attr{{Name: "href"}, {Name: "type", Value: "checkbox"}, {Name: "slot", Value: "s"}, {Name: "name", Value: "s"}}
	a := some[next(len(some))]
	return a.Name, a.Value
}

func sameNode(a, b api.Node) bool {
	return a.Live == b.Live && a.Tag == b.Tag && a.Text == b.Text && a.Up == b.Up && a.HasS == b.HasS && a.InS == b.InS &&
		slices.Equal(a.Attrs, b.Attrs) && slices.Equal(a.Kids, b.Kids) && slices.Equal(a.Shadow, b.Shadow)
}

func same(a, b api.Doc) bool { return slices.EqualFunc(a, b, sameNode) }

// roomy is d with room behind each of its lists, in which stands what would be told if it were looked at.
func roomy(d api.Doc) api.Doc {
	ints := func(l []int) []int { return append(append(make([]int, 0, len(l)+2), l...), 1, 2)[:len(l)] }
	var out api.Doc
	for _, n := range d {
		n.Attrs = append(append([]api.Attr(nil), n.Attrs...), api.Attr{Name: "title", Value: "unseen"})[:len(n.Attrs)]
		n.Kids, n.Shadow = ints(n.Kids), ints(n.Shadow)
		out = append(out, n)
	}
	return append(out, api.Node{Live: true, Tag: "label", Up: 0, Attrs: []api.Attr{{Name: "for", Value: "i"}, {Name: "id", Value: "i"}}})[:len(d)]
}

// whole is d with the room behind each of its lists.
func whole(d api.Doc) api.Doc {
	out := dom.Own(d[:len(d)+1])
	for i, n := range d {
		out[i].Attrs = slices.Clone(n.Attrs[:len(n.Attrs)+1])
		out[i].Kids = slices.Clone(n.Kids[:len(n.Kids)+2])
		out[i].Shadow = slices.Clone(n.Shadow[:len(n.Shadow)+2])
	}
	return out
}

// roomyClaims is l with room behind it, in which each node of d is claimed by the root.
func roomyClaims(d api.Doc, l []api.Claim) []api.Claim {
	out := slices.Clone(l)
	for n := range d {
		out = append(out, api.Claim{Owner: 0, Kid: n})
	}
	return out[:len(l)]
}

// roomyItems is l with room behind each of its lists, in which stands an item 77.
func roomyItems(l []api.Item) []api.Item {
	var out []api.Item
	for _, it := range l {
		it.Kids = roomyItems(it.Kids)
		out = append(out, it)
	}
	return append(out, api.Item{Node: 77})[:len(l)]
}

// wholeItems tells items with the one that stands behind each of their lists.
func wholeItems(l []api.Item) string {
	out := []string{}
	for _, it := range l {
		out = append(out, shown([]api.Item{it})+wholeItems(it.Kids))
	}
	return strings.Join(append(out, shown(l[len(l):len(l)+1])), ", ")
}

// spoil writes into all lists of items, and into the room behind them.
func spoil(l []api.Item) {
	for _, it := range l {
		spoil(it.Kids)
	}
	l = l[:cap(l)]
	for i := range l {
		l[i] = api.Item{Node: 99, Name: "spoilt"}
	}
}
