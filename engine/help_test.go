package engine

import (
	"slices"
	"strconv"
	"strings"
	"testing"

	"townreader/api"
	"townreader/dom"
)

func element(up int, tag string) api.Change {
	return api.Change{Kind: api.ChgMake, Node: up, Before: -1, Name: tag}
}

func text(up int, value string) api.Change {
	return api.Change{Kind: api.ChgText, Node: up, Before: -1, Value: value}
}

func elementS(up int, tag string) api.Change {
	return api.Change{Kind: api.ChgMakeS, Node: up, Before: -1, Name: tag}
}

func textS(up int, value string) api.Change {
	return api.Change{Kind: api.ChgTextS, Node: up, Before: -1, Value: value}
}

func moved(n, to, before int) api.Change {
	return api.Change{Kind: api.ChgMove, Node: n, To: to, Before: before}
}

func removed(n int) api.Change { return api.Change{Kind: api.ChgRemove, Node: n} }

func attr(n int, name, value string) api.Change {
	return api.Change{Kind: api.ChgAttr, Node: n, Name: name, Value: value}
}

func cleared(n int, name string) api.Change {
	return api.Change{Kind: api.ChgClear, Node: n, Name: name}
}

func say(n int, value string) api.Change {
	return api.Change{Kind: api.ChgSay, Node: n, Value: value}
}

func shadow(n int) api.Change { return api.Change{Kind: api.ChgShadow, Node: n} }

// plainNames are all attributes whose changes are plain.
func plainNames() []string {
	return []string{"alt", "aria-label", "title", "value", "aria-level", "aria-checked", "aria-disabled", "checked"}
}

// grow makes all changes, none of which may be refused.
func grow(t *testing.T, e api.Engine, l ...api.Change) api.Engine {
	t.Helper()
	for i, x := range l {
		y, _, err := Change(e, x)
		if err != api.OK {
			t.Fatalf("change %d, %+v, is refused: %d", i, x, err)
		}
		e = y
	}
	return e
}

// flushed is what was made of a new document by these changes, and told.
func flushed(t *testing.T, l ...api.Change) api.Engine {
	t.Helper()
	e, _, _ := Flush(grow(t, New(), l...))
	return e
}

// page has a button 1 with a text 2, a nav 3 that 5 labels, in it a link 4, a heading 5 with a text 6, and a text 7.
func page(t *testing.T) api.Engine {
	t.Helper()
	return flushed(t, element(0, "button"), text(1, "save"), element(0, "nav"), element(3, "a"), attr(4, "href", "#"), element(0, "h2"), text(5, "Ways"),
		text(0, "beside"), attr(5, "id", "h"), attr(3, "aria-labelledby", "h"))
}

// checkFlush answers what comes of e, for which so many names must be reckoned, and these events told.
func checkFlush(t *testing.T, e api.Engine, reckoned int, events ...api.Event) api.Engine {
	t.Helper()
	f, es, n := Flush(e)
	if n != reckoned {
		t.Errorf("%d names are reckoned, not %d: %s", n, reckoned, shown(e))
	}
	if shownEvents(es) != shownEvents(events) {
		t.Errorf("events %s, not %s", shownEvents(es), shownEvents(events))
	}
	return f
}

func checkDirty(t *testing.T, e api.Engine, want ...int) {
	t.Helper()
	if !slices.Equal(e.Dirty, want) {
		t.Errorf("Dirty is %v, not %v", e.Dirty, want)
	}
}

func checkSame(t *testing.T, got, want api.Engine) {
	t.Helper()
	if shown(got) != shown(want) {
		t.Errorf("%s, not %s", shown(got), shown(want))
	}
}

func tell(it api.Item) api.Event { return api.Event{Kind: api.EvTell, Node: it.Node, Item: it} }

func remove(n int) api.Event { return api.Event{Kind: api.EvRemove, Node: n} }

func add(to, at int, it api.Item) api.Event {
	return api.Event{Kind: api.EvAdd, To: to, At: at, Item: it}
}

func item(n, role int, name, about string) api.Item {
	return api.Item{Node: n, Role: role, Name: name, About: about}
}

// shown tells all fields of an engine, of nil as of a list without entries.
func shown(e api.Engine) string {
	var nodes []string
	for _, n := range e.Doc {
		var attrs []string
		for _, a := range n.Attrs {
			attrs = append(attrs, a.Name+"="+strconv.Quote(a.Value))
		}
		parts := []string{strconv.FormatBool(n.Live), strconv.Quote(n.Tag), strconv.Quote(n.Text), listed(attrs), strconv.Itoa(n.Up), shownInts(n.Kids), strconv.FormatBool(n.HasS), shownInts(n.Shadow), strconv.FormatBool(n.InS)}
		nodes = append(nodes, strings.Join(parts, " "))
	}
	return listed(nodes) + " Told " + shownItems(e.Told) + " Memos " + shownMemos(e.Memos) + " Dirty " + shownInts(e.Dirty)
}

func shownMemos(l []api.Memo) string {
	var out []string
	for _, m := range l {
		out = append(out, strconv.Itoa(m.Node)+" "+strconv.Quote(m.Name)+" "+strconv.Quote(m.About)+" "+shownInts(m.Uses))
	}
	return listed(out)
}

func shownItems(l []api.Item) string {
	var out []string
	for _, it := range l {
		parts := []string{strconv.Itoa(it.Node), strconv.Itoa(it.Role), strconv.Quote(it.Name), strconv.Quote(it.About), strconv.Itoa(it.Level), strconv.Itoa(it.Checked), strconv.FormatBool(it.Off), shownItems(it.Kids)}
		out = append(out, strings.Join(parts, " "))
	}
	return listed(out)
}

func shownEvents(l []api.Event) string {
	var out []string
	for _, e := range l {
		out = append(out, shownInts([]int{e.Kind, e.Node, e.To, e.At})+shownItems([]api.Item{e.Item}))
	}
	return listed(out)
}

func shownInts(l []int) string {
	var out []string
	for _, n := range l {
		out = append(out, strconv.Itoa(n))
	}
	return listed(out)
}

func listed(l []string) string { return "[" + strings.Join(l, ", ") + "]" }

// rule answers numbers below n, one after the other, always the same ones.
func rule(state uint64) func(n int) int {
	return func(n int) int {
		state = state*6364136223846793005 + 1442695040888963407
		return int(state>>33) % n
	}
}

// someChange is a change of any kind: plain ones, such as say who is asked, or where, and wrong ones.
func someChange(d api.Doc, next func(n int) int) api.Change {
	kinds := []int{api.ChgMake, api.ChgMake, api.ChgMake, api.ChgText, api.ChgText, api.ChgMove, api.ChgMakeS, api.ChgTextS, api.ChgAttr, api.ChgAttr, api.ChgAttr}
	tags := []string{"slot", "slot", "div", "p", "button", "h1", "h3", "ul", "li", "li", "table", "tr", "td", "input", "input", "img", "section", "section", "nav", "a", "label", "label"}
	x := api.Change{Kind: kinds[next(len(kinds))], Node: max(next(len(d)), next(len(d)+1)), To: next(len(d)), Before: -1, Name: tags[next(len(tags))]}
	x.Value = someText(next)
	switch {
	case x.Kind == api.ChgAttr:
		x.Name, x.Value = someAttr(next)
		if x.Node == 0 && strings.HasSuffix(x.Name, "hidden") {
			x.Name = "title" // else too many documents are hidden whole
		}
	case x.Kind == api.ChgMakeS && next(3) == 0:
		x.Kind = api.ChgShadow
	case x.Kind == api.ChgMove && next(4) == 0:
		x.Kind = api.ChgRemove
	}
	return x
}

func someText(next func(n int) int) string {
	return []string{"a", " b  c ", "", "\n", "d\te"}[next(5)]
}

// somePlain is a plain change, of a node that most often has what is changed.
func somePlain(d api.Doc, next func(n int) int) api.Change {
	n := next(len(d))
	if !dom.Is(d, n, true) {
		return say(n, someText(next))
	}
	x := attr(n, plainNames()[next(8)], []string{"v", " w  x", "", "True", "mixed", "3"}[next(6)])
	if l := d[n].Attrs; next(3) == 0 && len(l) > 0 && slices.Contains(plainNames(), l[0].Name) {
		return cleared(n, l[0].Name)
	}
	return x
}

func someAttr(next func(n int) int) (string, string) {
	ids := []string{"i", "j", "k", "l", "m"}
	switch next(6) {
	case 0:
		return "id", ids[next(len(ids))]
	case 1:
		return "for", ids[next(len(ids))]
	case 2:
		return []string{"aria-owns", "aria-labelledby", "aria-labelledby", "aria-describedby"}[next(4)], ids[next(len(ids))] + " " + ids[next(len(ids))]
	case 3:
		roles := []string{"none", "none", "heading", "checkbox", "row", "cell", "listitem", "list", "group", "link", "textbox", "none button"}
		return "role", roles[next(len(roles))]
	case 4:
		if next(5) == 0 {
			return []string{"hidden", "aria-hidden"}[next(2)], "True"
		}
	}
	some := []api.Attr{{Name: "href"}, {Name: "type", Value: "checkbox"}, {Name: "slot", Value: "s"}, {Name: "name", Value: "s"}, {Name: "title", Value: "t"}, {Name: "aria-label", Value: "l"}}
	a := some[next(len(some))]
	return a.Name, a.Value
}

// grown is a new engine, with a page of many changes of which nothing was told.
func grown(next func(n int) int) api.Engine {
	e := New()
	for range 40 + next(120) {
		if y, _, err := Change(e, someChange(e.Doc, next)); err == api.OK {
			e = y
		}
	}
	return e
}

// roomy is e with room behind each of its lists, in which stands what would be seen if it were looked at.
func roomy(e api.Engine) api.Engine {
	var d api.Doc
	for _, n := range e.Doc {
		n.Attrs = append(append([]api.Attr(nil), n.Attrs...), api.Attr{Name: "title", Value: "unseen"})[:len(n.Attrs)]
		n.Kids, n.Shadow = roomyInts(n.Kids), roomyInts(n.Shadow)
		d = append(d, n)
	}
	d = append(d, api.Node{Live: true, Tag: "label", Up: 0, Attrs: []api.Attr{{Name: "for", Value: "i"}}})
	var memos []api.Memo
	for _, m := range e.Memos {
		m.Uses = roomyInts(m.Uses)
		memos = append(memos, m)
	}
	memos = append(memos, api.Memo{Node: 1, Name: "unseen"})
	return api.Engine{Doc: d[:len(d)-1], Told: roomyItems(e.Told), Memos: memos[:len(memos)-1], Dirty: roomyInts(e.Dirty)}
}

func roomyInts(l []int) []int {
	return append(append(make([]int, 0, len(l)+2), l...), 1, 2)[:len(l)]
}

func roomyItems(l []api.Item) []api.Item {
	var out []api.Item
	for _, it := range l {
		it.Kids = roomyItems(it.Kids)
		out = append(out, it)
	}
	return append(out, api.Item{Node: 77})[:len(l)]
}

// whole is what roomy made with the room behind each of its lists, as texts.
func whole(e api.Engine) string {
	d := dom.Own(e.Doc[:len(e.Doc)+1])
	for i, n := range e.Doc {
		d[i].Attrs = slices.Clone(n.Attrs[:len(n.Attrs)+1])
		d[i].Kids, d[i].Shadow = slices.Clone(n.Kids[:len(n.Kids)+2]), slices.Clone(n.Shadow[:len(n.Shadow)+2])
	}
	memos := slices.Clone(e.Memos[:len(e.Memos)+1])
	for i, m := range e.Memos {
		memos[i].Uses = slices.Clone(m.Uses[:len(m.Uses)+2])
	}
	return shown(api.Engine{Doc: d, Told: wholeItems(e.Told), Memos: memos, Dirty: e.Dirty[:len(e.Dirty)+2]})
}

func wholeItems(l []api.Item) []api.Item {
	out := slices.Clone(l[:len(l)+1])
	for i, it := range l {
		out[i].Kids = wholeItems(it.Kids)
	}
	return out
}

// spoil writes into all lists of an engine, and into the room behind them.
func spoil(e api.Engine) {
	for _, n := range e.Doc[:cap(e.Doc)] {
		n.Attrs = n.Attrs[:cap(n.Attrs)]
		for i := range n.Attrs {
			n.Attrs[i] = api.Attr{Name: "title", Value: "spoilt"}
		}
		spoilInts(n.Kids)
		spoilInts(n.Shadow)
	}
	for _, m := range e.Memos[:cap(e.Memos)] {
		spoilInts(m.Uses)
	}
	fill(e.Doc, api.Node{Text: "spoilt", Up: 99})
	fill(e.Memos, api.Memo{Node: 99, Name: "spoilt"})
	spoilInts(e.Dirty)
	spoilItems(e.Told)
}

func spoilInts(l []int) { fill(l, 99) }

func spoilItems(l []api.Item) {
	for _, it := range l {
		spoilItems(it.Kids)
	}
	fill(l, api.Item{Node: 99, Name: "spoilt"})
}

func spoilEvents(l []api.Event) {
	for _, e := range l {
		spoilItems(e.Item.Kids)
	}
	fill(l, api.Event{Kind: 99})
}

func fill[L ~[]T, T any](l L, with T) {
	l = l[:cap(l)]
	for i := range l {
		l[i] = with
	}
}
