package tree

import (
	"slices"
	"strconv"
	"strings"
	"testing"

	"townreader/api"
	"townreader/dom"
	"townreader/kinds"
	"townreader/naming"
	"townreader/owns"
	"townreader/role"
)

func TestAHeadingInADivIsToldOfInMain(t *testing.T) {
	d := build(t, element(0, "div"), element(1, "h1"), text(2, " Old\ttown "))
	heading := item(2, api.RoleHeading, "Old town", textItem(3, "Old town"))
	heading.Level = 1
	checkBuild(t, d, mainItem(heading))
}

func TestAPageWithNothingInItIsMain(t *testing.T) {
	checkBuild(t, dom.New(), mainItem())
	checkBuild(t, build(t, element(0, "div"), element(0, "p"), element(2, "span"), text(3, " \n")), mainItem())
}

func TestOfNoDocumentNothingIsTold(t *testing.T) {
	for _, d := range []api.Doc{nil, {}} {
		checkBuild(t, d)
		checkItems(t, With(d, nil, func(int) api.Memo { return api.Memo{Name: "n"} }))
		checkItems(t, With(d, []api.Claim{}, nil))
	}
}

func TestTextsAreSqueezed(t *testing.T) {
	for value, want := range map[string]string{"a": "a", " a\t\r\n b ": "a b", "a\u00a0 b": "a\u00a0 b", "\v": "\v", "\xff": "\xff"} {
		checkBuild(t, build(t, text(0, value)), mainItem(textItem(1, want)))
	}
	for _, value := range []string{"", " ", "\n\t\r "} {
		checkBuild(t, build(t, text(0, value)), mainItem())
		checkBuild(t, build(t, text(0, "a"), text(0, value), text(0, "b")), mainItem(textItem(1, "a"), textItem(3, "b")))
	}
}

// TestWhatIsGenericIsNotTold: but what is in it is, in its place.
func TestWhatIsGenericIsNotTold(t *testing.T) {
	d := build(t, text(0, "a"), element(0, "div"), text(2, "b"), element(2, "p"), text(4, "c"), text(2, "d"), text(0, "e"))
	want := mainItem(textItem(1, "a"), textItem(3, "b"), textItem(5, "c"), textItem(6, "d"), textItem(7, "e"))
	checkBuild(t, d, want)
	for _, name := range []string{"none", "Presentation", "generic", "zz", "row", "cell", "listitem"} {
		checkBuild(t, with(t, d, 2, "role", name, "aria-level", "2", "aria-checked", "true", "aria-disabled", "true"), want)
	}
	for _, tag := range []string{"li", "tr", "td", "section", "a", "label", "slot", "h4", "x-host"} {
		checkBuild(t, one(t, tag), mainItem(textItem(2, "in it")))
	}
	checkBuild(t, one(t, "img", "alt", " "), mainItem(textItem(2, "in it")))
	checkBuild(t, one(t, "button", "role", "none"), mainItem(textItem(2, "in it")))
	checkBuild(t, one(t, "button", "role", "none", "aria-label", "l"), mainItem(item(1, api.RoleButton, "l")))
}

// TestItemsOfAllRoles: which of them have names, and which of them have what is in them.
func TestItemsOfAllRoles(t *testing.T) {
	for _, c := range []struct {
		name                   string
		role                   int
		content, leaf, checked bool
	}{
		{"group", api.RoleGroup, false, false, false},
		{"main", api.RoleMain, false, false, false},
		{"navigation", api.RoleNav, false, false, false},
		{"heading", api.RoleHeading, true, false, false},
		{"list", api.RoleList, false, false, false},
		{"link", api.RoleLink, true, false, false},
		{"button", api.RoleButton, true, true, false},
		{"checkbox", api.RoleCheck, true, true, true},
		{"img", api.RoleImage, false, true, false},
		{"textbox", api.RoleBox, false, true, false},
		{"table", api.RoleTable, false, false, false},
		{"region", api.RoleRegion, false, false, false},
		{"dialog", api.RoleDialog, false, false, false},
	} {
		want := item(1, c.role, "")
		if c.content {
			want.Name = "in it"
		}
		if !c.leaf {
			want.Kids = []api.Item{textItem(2, "in it")}
		}
		if c.checked {
			want.Checked = 1
		}
		if c.role == api.RoleHeading {
			want.Level = 2
		}
		d := one(t, "p", "role", c.name)
		checkBuild(t, d, mainItem(want))
		want.Name, want.About = "l", "t"
		checkBuild(t, with(t, d, 1, "aria-label", "l", "title", "t"), mainItem(want))
	}
}

func TestListsAndTables(t *testing.T) {
	d := build(t, element(0, "ul"), element(1, "li"), text(2, "a"), attr(2, "title", "t"), element(2, "ul"), element(4, "li"), text(5, "b"))
	outer, inner := item(2, api.RoleItem, ""), item(5, api.RoleItem, "", textItem(6, "b"))
	outer.Level, inner.Level = 1, 2
	outer.Kids = []api.Item{textItem(3, "a"), item(4, api.RoleList, "", inner)}
	checkBuild(t, d, mainItem(item(1, api.RoleList, "", outer)))
	d = build(t, element(0, "table"), element(1, "tr"), element(2, "td"), text(3, "a"), element(2, "td"), text(5, "b"))
	cells := []api.Item{item(3, api.RoleCell, "a", textItem(4, "a")), item(5, api.RoleCell, "b", textItem(6, "b"))}
	checkBuild(t, d, mainItem(item(1, api.RoleTable, "", item(2, api.RoleRow, "a b", cells...))))
	// what may not stand alone is not told
	checkBuild(t, grow(t, d, attr(1, "role", "none")), mainItem(textItem(4, "a"), textItem(6, "b")))
}

func TestOff(t *testing.T) {
	for value, want := range map[string]bool{"true": true, " True\n": true, "TRUE": true, "false": false, "": false, "true true": false, "1": false, "tru": false} {
		off := item(1, api.RoleList, "", textItem(2, "in it"))
		off.Off = want
		checkBuild(t, one(t, "ul", "aria-disabled", value), mainItem(off))
	}
	checkBuild(t, one(t, "ul", "disabled", "true"), mainItem(item(1, api.RoleList, "", textItem(2, "in it"))))
	off := mainItem()
	off.Off = true
	checkBuild(t, with(t, dom.New(), 0, "aria-disabled", "true"), off)
}

func TestItemsHaveLevelsAndAreChecked(t *testing.T) {
	d := build(t, element(0, "h1"), element(0, "input"), attr(1, "aria-level", "7"), attr(2, "type", "checkbox"), attr(2, "aria-checked", "mixed"))
	heading, box := item(1, api.RoleHeading, ""), item(2, api.RoleCheck, "")
	heading.Level, box.Checked = 7, 3
	checkBuild(t, d, mainItem(heading, box))
	// by its level, too, an item is where its owner is
	d = build(t, element(0, "ul"), element(1, "li"), element(0, "ul"), id(3, "x"), element(3, "li"), owning(2, "x"))
	outer, inner := item(2, api.RoleItem, ""), item(4, api.RoleItem, "")
	outer.Level, inner.Level = 1, 2
	outer.Kids = []api.Item{item(3, api.RoleList, "", inner)}
	checkBuild(t, d, mainItem(item(1, api.RoleList, "", outer)))
}

func TestNamesAndAbouts(t *testing.T) {
	d := build(t, element(0, "nav"), attr(1, "aria-labelledby", "x"), attr(1, "title", " go  there "), element(0, "p"), id(2, "x"), text(2, "Ways"))
	nav := item(1, api.RoleNav, "Ways")
	nav.About = "go there"
	checkBuild(t, d, mainItem(nav, textItem(3, "Ways")))
	d = grow(t, d, attr(1, "aria-describedby", "x"))
	nav.About = "Ways"
	checkBuild(t, d, mainItem(nav, textItem(3, "Ways")))
	// that which has no name has no About; what is hidden may be listed, and is not told of for that
	nav.Name, nav.About = "", ""
	checkBuild(t, grow(t, d, cleared(1, "aria-labelledby"), cleared(1, "title")), mainItem(nav, textItem(3, "Ways")))
	nav.Name, nav.About = "Ways", "Ways"
	checkBuild(t, grow(t, d, hidden(2)), mainItem(nav))
	root := mainItem(textItem(3, "Ways"))
	root.Name, root.About = "Town", "of old"
	checkBuild(t, with(t, grow(t, d, hidden(1)), 0, "aria-label", "Town", "title", "of old"), root)
}

func TestWhatIsInALeafIsNotTold(t *testing.T) {
	for _, name := range []string{"button", "checkbox", "img", "textbox"} {
		d := build(t, element(0, "p"), element(1, "p"), element(2, "nav"), text(3, "a"), element(0, "h1"), id(5, "x"), attr(1, "role", name))
		checkNodes(t, Build(d), 0, 1, 5)
		// nor is what it owns, nor what is owned by what is in it
		checkNodes(t, Build(grow(t, d, owning(1, "x"))), 0, 1)
		checkNodes(t, Build(grow(t, d, owning(3, "x"))), 0, 1)
	}
}

func TestWhatIsHiddenIsNotTold(t *testing.T) {
	d := build(t, text(0, "a"), element(0, "div"), element(2, "button"), text(3, "b"), text(2, "c"), text(0, "d"))
	a, c, e := textItem(1, "a"), textItem(5, "c"), textItem(6, "d")
	checkBuild(t, d, mainItem(a, item(3, api.RoleButton, "b"), c, e))
	for _, name := range []string{"hidden", "aria-hidden"} {
		checkBuild(t, grow(t, d, attr(3, name, " TRUE ")), mainItem(a, c, e))
		checkBuild(t, grow(t, d, attr(2, name, "true")), mainItem(a, e))
		checkBuild(t, grow(t, d, attr(0, name, "true")))
		checkBuild(t, grow(t, d, attr(0, name, "true"), attr(0, "role", "none")))
	}
	checkBuild(t, grow(t, d, attr(2, "hidden", "false")), mainItem(a, e))
	checkBuild(t, grow(t, d, attr(2, "aria-hidden", "false")), mainItem(a, item(3, api.RoleButton, "b"), c, e))
}

// TestWhoOwnsWhatIsHidden: an owned node is hidden by its owner, and by what it is shown in.
func TestWhoOwnsWhatIsHidden(t *testing.T) {
	d := build(t, element(0, "nav"), element(0, "ul"), element(2, "h1"), text(3, "a"), id(3, "x"), owning(1, "x"))
	heading := item(3, api.RoleHeading, "a", textItem(4, "a"))
	heading.Level = 1
	checkBuild(t, d, mainItem(item(1, api.RoleNav, "", heading), item(2, api.RoleList, "")))
	checkBuild(t, grow(t, d, hidden(1)), mainItem(item(2, api.RoleList, "")))
	checkBuild(t, grow(t, d, hidden(2)), mainItem(item(1, api.RoleNav, "")))
	checkBuild(t, grow(t, d, hidden(3)), mainItem(item(1, api.RoleNav, ""), item(2, api.RoleList, "")))
}

func TestWhatIsOwnedIsToldLast(t *testing.T) {
	d := build(t, text(0, "a"), element(0, "p"), text(2, "b"), id(2, "x"), element(0, "ul"), text(4, "c"), element(0, "p"), text(6, "d"), id(6, "y"), owning(4, "y x"))
	checkBuild(t, d, mainItem(textItem(1, "a"), item(4, api.RoleList, "", textItem(5, "c"), textItem(7, "d"), textItem(3, "b"))))
	// by one that is generic: in its place
	d = grow(t, d, attr(4, "role", "none"), text(0, "e"))
	checkBuild(t, d, mainItem(textItem(1, "a"), textItem(5, "c"), textItem(7, "d"), textItem(3, "b"), textItem(8, "e")))
}

func TestShadowTreesAndSlots(t *testing.T) {
	d := build(t, element(0, "x-host"), shadow(1), textS(1, "a"), elementS(1, "nav"), element(3, "slot"), text(4, "instead"), textS(1, "c"))
	checkBuild(t, d, mainItem(textItem(2, "a"), item(3, api.RoleNav, "", textItem(5, "instead")), textItem(6, "c")))
	d = grow(t, d, text(1, "b"), element(1, "button"))
	checkBuild(t, d, mainItem(textItem(2, "a"), item(3, api.RoleNav, "", textItem(7, "b"), item(8, api.RoleButton, "")), textItem(6, "c")))
	// what goes to no slot is not told
	d = grow(t, d, attr(8, "slot", "nowhere"))
	checkBuild(t, d, mainItem(textItem(2, "a"), item(3, api.RoleNav, "", textItem(7, "b")), textItem(6, "c")))
	// a button with a shadow tree has it in its name alone
	d = grow(t, d, attr(1, "role", "button"))
	checkBuild(t, d, mainItem(item(1, api.RoleButton, "a b c")))
}

func TestTheRootIsMainAtLeast(t *testing.T) {
	d := with(t, build(t, text(0, "a"), element(0, "nav")), 0, "title", "t")
	named := item(0, api.RoleMain, "t", textItem(1, "a"), item(2, api.RoleNav, ""))
	checkBuild(t, d, named)
	unnamed := mainItem(named.Kids...)
	for _, name := range []string{"none", "presentation", "row", "cell", "listitem", "zz NONE"} {
		checkBuild(t, with(t, d, 0, "role", name, "aria-level", "3"), unnamed)
	}
	for _, name := range []string{"generic", "text", "zz", "main", ""} { // nobody may ask for these: it is main by its tag
		checkBuild(t, with(t, d, 0, "role", name), named)
	}
	// one that is labelled is none only if it is so by itself
	labelled := named
	labelled.Name, labelled.About = "l", "t"
	checkBuild(t, with(t, d, 0, "role", "none", "aria-label", "l"), labelled)
	// as a row it is generic, labelled or not
	off := unnamed
	off.Off = true
	checkBuild(t, with(t, d, 0, "role", "row", "aria-label", "l", "aria-disabled", "true"), off)
}

func TestTheRootOfAnotherRole(t *testing.T) {
	d := build(t, text(0, "a"), element(0, "h1"))
	inner := item(2, api.RoleHeading, "")
	inner.Level = 1
	checkBuild(t, with(t, d, 0, "role", "button"), item(0, api.RoleButton, "a"))
	checkBuild(t, with(t, d, 0, "role", "list"), item(0, api.RoleList, "", textItem(1, "a"), inner))
	heading := item(0, api.RoleHeading, "a", textItem(1, "a"), inner)
	heading.Level = 2
	checkBuild(t, with(t, d, 0, "role", "heading"), heading)
	box := item(0, api.RoleCheck, "a")
	box.Checked = 1
	checkBuild(t, with(t, d, 0, "role", "checkbox"), box)
}

// asks keeps whom With asks for a name, and tells names by numbers.
func asks(d api.Doc, claims []api.Claim) ([]int, []api.Item) {
	var asked []int
	items := With(d, claims, func(n int) api.Memo {
		asked = append(asked, n)
		return api.Memo{Node: 99, Name: "n" + strconv.Itoa(n), About: "a" + strconv.Itoa(n), Uses: []int{98}}
	})
	return asked, items
}

func TestNamesThatSomebodyTells(t *testing.T) {
	d := build(t, element(0, "ul"), element(1, "li"), text(2, "a"), element(0, "button"), element(4, "nav"), element(0, "div"), element(6, "h2"), text(7, "b"), element(0, "nav"), hidden(9), element(0, "img"))
	asked, items := asks(d, nil)
	if want := []int{0, 1, 4, 7, 10}; !slices.Equal(asked, want) {
		t.Errorf("%v were asked, not %v", asked, want)
	}
	named := func(n, role int, kids ...api.Item) api.Item {
		it := item(n, role, "n"+strconv.Itoa(n), kids...)
		it.About = "a" + strconv.Itoa(n)
		return it
	}
	li, heading := item(2, api.RoleItem, "", textItem(3, "a")), named(7, api.RoleHeading, textItem(8, "b"))
	li.Level, heading.Level = 1, 2
	checkItems(t, items, named(0, api.RoleMain, named(1, api.RoleList, li), named(4, api.RoleButton), heading, named(10, api.RoleImage)))
	// the root is not asked if it is main for want of another role
	asked, items = asks(with(t, d, 0, "role", "none"), nil)
	if want := []int{1, 4, 7, 10}; !slices.Equal(asked, want) || items[0].Name != "" || items[0].About != "" {
		t.Errorf("%v were asked, not %v: %+v", asked, want, items)
	}
	asked, items = asks(grow(t, d, hidden(0)), nil)
	if len(asked) > 0 || len(items) > 0 {
		t.Errorf("%v were asked of a root that is hidden: %+v", asked, items)
	}
}

func TestWithTheseClaims(t *testing.T) {
	d := build(t, element(0, "nav"), element(0, "ul"), element(0, "p"), id(3, "x"), text(3, "a"), owning(2, "x"))
	none := func(int) api.Memo { return api.Memo{} }
	nav, list := item(1, api.RoleNav, ""), item(2, api.RoleList, "")
	checkItems(t, With(d, nil, none), mainItem(nav, list, textItem(4, "a")))
	checkItems(t, With(d, []api.Claim{}, none), mainItem(nav, list, textItem(4, "a")))
	list.Kids = []api.Item{textItem(4, "a")}
	checkItems(t, With(d, owns.Claims(d), none), mainItem(nav, list))
	// those of how it was, or of how it comes to be
	other := owns.Claims(grow(t, d, cleared(2, "aria-owns"), owning(1, "x")))
	nav.Kids, list.Kids = list.Kids, nil
	checkItems(t, With(d, other, none), mainItem(nav, list))
}

// TestNobodyTellsNames: whatever is handed in, no call panics; who cannot tell a name tells none.
func TestNobodyTellsNames(t *testing.T) {
	d := build(t, element(0, "button"), text(1, "a"), element(0, "nav"), text(0, "b"))
	checkItems(t, With(d, nil, nil), mainItem(item(1, api.RoleButton, ""), item(3, api.RoleNav, ""), textItem(4, "b")))
	got := With(d, nil, func(n int) api.Memo {
		if n == 1 {
			panic("no name")
		}
		return api.Memo{Name: "n"}
	})
	checkItems(t, got, item(0, api.RoleMain, "n", item(1, api.RoleButton, ""), item(3, api.RoleNav, "n"), textItem(4, "b")))
}

// outline has all that is told of a document, found from each node upwards: which nodes are told, and in which item each one is.
type outline struct {
	d      api.Doc
	claims []api.Claim
	order  []int
}

func outlineOf(d api.Doc) outline {
	o := outline{d: d, claims: owns.Claims(d)}
	var walk func(n int)
	walk = func(n int) {
		o.order = append(o.order, n)
		for _, k := range owns.Kids(d, o.claims, n) {
			walk(k)
		}
	}
	walk(0)
	return o
}

func (o outline) line(n int) []int {
	var line []int
	for ; n >= 0; n = owns.Up(o.d, o.claims, n) {
		line = append(line, n)
	}
	return line
}

func (o outline) isItem(n int) bool {
	is := role.Of(o.d, n)
	switch {
	case n == 0:
		return true
	case is == api.RoleText:
		return len(strings.Fields(o.d[n].Text)) > 0
	}
	return is != api.RoleNone && is != api.RoleGeneric
}

func (o outline) isTold(n int) bool {
	line := o.line(n)
	isLeaf := func(k int) bool { return kinds.Of(role.Of(o.d, k)).Leaf }
	isHidden := func(k int) bool { return role.Hidden(o.d, k) }
	return o.isItem(n) && line[len(line)-1] == 0 && !slices.ContainsFunc(line, isHidden) && !slices.ContainsFunc(line[1:], isLeaf)
}

func (o outline) in(n int) int {
	for _, k := range o.line(n)[1:] {
		if o.isItem(k) {
			return k
		}
	}
	return -1
}

func (o outline) items(in int) []api.Item {
	var items []api.Item
	for _, n := range o.order {
		if !o.isTold(n) || o.in(n) != in {
			continue
		}
		is := role.Of(o.d, n)
		it := api.Item{Node: n, Role: is, Level: levelByHand(o.d, o.claims, n), Checked: checkedByHand(o.d, n)}
		if memo := naming.Of(o.d, o.claims, n); kinds.Of(is).Named || is == api.RoleText {
			it.Name, it.About = memo.Name, memo.About
		}
		it.Off = strings.EqualFold(role.Said(o.d, n, "aria-disabled"), "true")
		if is == api.RoleNone || is == api.RoleGeneric {
			it.Role = api.RoleMain
		}
		it.Kids = o.items(n)
		items = append(items, it)
	}
	return items
}

func TestTreesOfManyDocuments(t *testing.T) {
	next, told, deepest := rule(6), 0, 0
	for range 300 {
		d := grown(next)
		got := Build(d)
		checkItems(t, got, outlineOf(d).items(-1)...)
		told += len(Nodes(got))
		deepest = max(deepest, deep(got))
	}
	if told < 1500 || deepest < 6 {
		t.Errorf("only %d items are told, at most %d within one another", told, deepest)
	}
}

func deep(l []api.Item) int {
	most := 0
	for _, it := range l {
		most = max(most, 1+deep(it.Kids))
	}
	return most
}

// TestEachOnceAndNothingHidden: and each one that has a name was asked once for it, ahead of what is in it.
func TestEachOnceAndNothingHidden(t *testing.T) {
	next := rule(7)
	for range 300 {
		d := grown(next)
		asked, items := asks(d, owns.Claims(d))
		nodes := Nodes(items)
		if named := slices.DeleteFunc(slices.Clone(nodes), func(n int) bool { return !kinds.Of(role.Of(d, n)).Named }); !slices.Equal(asked, named) {
			t.Errorf("%v were asked, not %v", asked, named)
		}
		if slices.ContainsFunc(nodes, func(n int) bool { return role.Hidden(d, n) }) {
			t.Errorf("what is hidden is told: %v of %+v", nodes, d)
		}
		slices.Sort(nodes)
		if len(slices.Compact(slices.Clone(nodes))) != len(nodes) {
			t.Errorf("%v are not told once each", nodes)
		}
	}
}

func TestBuildIsWithNamesAsTheyAre(t *testing.T) {
	next := rule(8)
	for range 100 {
		d := grown(next)
		claims := owns.Claims(d)
		got := With(d, claims, func(n int) api.Memo { return naming.Of(d, claims, n) })
		checkItems(t, got, Build(d)...)
	}
}

func TestADocumentIsOnlyRead(t *testing.T) {
	next := rule(9)
	for range 30 {
		d := grown(next)
		l := owns.Claims(d)
		given, claims := roomy(d), roomyClaims(d, l)
		was, wasClaims := whole(given), slices.Clone(claims[:len(l)+len(d)])
		_, wantWith := asks(d, l)
		want := Build(d)
		for range 2 { // twice as once
			got := Build(given)
			checkItems(t, got, want...)
			_, gotWith := asks(given, claims)
			checkItems(t, gotWith, wantWith...)
			for n := -1; n < len(d)+2; n++ {
				if Level(given, claims, n) != Level(d, l, n) || Checked(given, n) != Checked(d, n) {
					t.Errorf("of %d another thing is told with room behind lists", n)
				}
			}
			spoil(got)
			spoil(gotWith)
		}
		if !same(whole(given), was) || !slices.Equal(claims[:len(l)+len(d)], wasClaims) {
			t.Errorf("what was handed in is changed")
		}
	}
}
