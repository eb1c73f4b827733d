package role

import (
	"math"
	"slices"
	"strings"
	"testing"

	"townreader/api"
	"townreader/dom"
	"townreader/flat"
	"townreader/kinds"
)

// blanks: what is said empty.
var blanks = []string{"", " ", "\t", "\n", "\r", " \t\r\n "}

// full: what is not, though it looks so.
var full = []string{"x", " x ", "0", "\x00", "\v", "\f", "\u00a0", "\xff"}

func TestSaid(t *testing.T) {
	d := one(t, "p", "title", " save \n it\t", "alt", " ")
	for _, c := range []struct {
		n          int
		name, want string
	}{{1, "title", "save it"}, {1, "alt", ""}, {1, "role", ""}, {1, "", ""}, {0, "title", ""}, {-1, "title", ""}, {2, "title", ""}} {
		if got := Said(d, c.n, c.name); got != c.want {
			t.Errorf("Said(%d, %q) = %q, not %q", c.n, c.name, got, c.want)
		}
	}
}

func TestLabelled(t *testing.T) {
	for _, tag := range []string{"p", "button", "img", "slot"} {
		checkLabelled(t, one(t, tag), 1, false)
		for _, name := range []string{"aria-label", "aria-labelledby"} {
			for _, value := range blanks {
				checkLabelled(t, one(t, tag, name, value), 1, false)
			}
			for _, value := range full {
				checkLabelled(t, one(t, tag, name, value), 1, true)
			}
		}
	}
	checkLabelled(t, one(t, "p", "aria-label", " ", "aria-labelledby", "\n"), 1, false)
	checkLabelled(t, one(t, "p", "aria-label", " ", "aria-labelledby", "zz"), 1, true)
	checkLabelled(t, one(t, "p", "aria-label", "x", "aria-labelledby", ""), 1, true)
	checkLabelled(t, grow(t, one(t, "p", "aria-label", "x"), cleared(1, "aria-label")), 1, false)
	checkLabelled(t, grow(t, dom.New(), attr(0, "aria-label", "x")), 0, true)
}

func TestLabelsAreOfNothingElse(t *testing.T) {
	d := one(t, "p", "title", "x", "alt", "x", "label", "x", "aria-labelled", "x", "aria-label-by", "x", "aria-describedby", "x")
	checkLabelled(t, d, 1, false)
	d = grow(t, one(t, "p", "aria-label", "x"), element(1, "b"), text(1, "t"))
	for _, n := range []int{0, 2, 3} { // only what has the attribute, not what is around it, nor what is in it
		checkLabelled(t, d, n, false)
	}
}

func TestTextsAreTexts(t *testing.T) {
	d := build(t, text(0, "t"), text(0, ""), element(0, "li"), text(3, "t"), element(0, "x-host"), shadow(5), textS(5, "t"), text(5, "shown nowhere"))
	for _, n := range []int{1, 2, 4, 6, 7} {
		checkOf(t, d, n, api.RoleText)
		checkLabelled(t, d, n, false)
	}
}

func TestRolesByTags(t *testing.T) {
	for tag, want := range map[string]int{
		"main": api.RoleMain, "nav": api.RoleNav, "h1": api.RoleHeading, "h2": api.RoleHeading, "h3": api.RoleHeading, "ul": api.RoleList,
		"button": api.RoleButton, "table": api.RoleTable, "dialog": api.RoleDialog,
		"div": api.RoleGeneric, "p": api.RoleGeneric, "h4": api.RoleGeneric, "ol": api.RoleGeneric, "slot": api.RoleGeneric, "label": api.RoleGeneric, "x-list": api.RoleGeneric,
		"a": api.RoleGeneric, "section": api.RoleGeneric, "input": api.RoleBox, "img": api.RoleImage,
	} {
		checkOf(t, one(t, tag), 1, want)
		checkOf(t, one(t, tag, "role", ""), 1, want)
		checkOf(t, one(t, tag, "role", " \t"), 1, want)
	}
	checkOf(t, dom.New(), 0, api.RoleMain)
}

func TestRolesThatAreAskedFor(t *testing.T) {
	for role := api.RoleGroup; role < api.RoleGeneric; role++ {
		if role == api.RoleText || kinds.Of(role).Need != 0 {
			continue
		}
		name := kinds.Of(role).Name
		for _, tag := range []string{"div", "button", "li", "input", "img", "section", "a"} {
			for _, value := range []string{name, strings.ToUpper(name), "\t" + name + "\n", "zz " + name, name + " none", name + " button", "text generic " + name, "-1 0 " + name} {
				checkOf(t, one(t, tag, "role", value), 1, role)
			}
		}
	}
	for _, value := range []string{"none", "presentation", "NONE", " Presentation ", "zz none", "none button", "text presentation heading"} {
		checkOf(t, one(t, "button", "role", value), 1, api.RoleNone)
	}
	checkOf(t, grow(t, dom.New(), attr(0, "role", "dialog")), 0, api.RoleDialog)
	checkOf(t, grow(t, dom.New(), attr(0, "role", "none")), 0, api.RoleNone)
}

func TestRolesThatAreNoneAreLeftOut(t *testing.T) {
	for _, value := range []string{"zz", "text", "generic", "text generic", "link,list", "\"link\"", "linK1", "link\v", "link\u00a0", "\xff", "ｌink", "nav", "h1", "ul", "0", "-1"} {
		checkOf(t, one(t, "button", "role", value), 1, api.RoleButton)
		checkOf(t, one(t, "div", "role", value), 1, api.RoleGeneric)
		checkOf(t, one(t, "img", "role", value, "alt", ""), 1, api.RoleNone)
		checkOf(t, one(t, "button", "role", value+" heading"), 1, api.RoleHeading)
	}
}

func TestWhatIsLabelledIsNotNone(t *testing.T) {
	for _, label := range []string{"aria-label", "aria-labelledby"} {
		for _, value := range []string{"none", "presentation", "None", "zz none", "none link", "presentation none heading", "none zz"} {
			checkOf(t, one(t, "nav", "role", value, label, "x"), 1, api.RoleNav)
			checkOf(t, one(t, "div", "role", value, label, "x"), 1, api.RoleGeneric)
			checkOf(t, one(t, "img", "role", value, label, "x", "alt", ""), 1, api.RoleImage)
			checkOf(t, one(t, "section", "role", value, label, "x"), 1, api.RoleRegion)
			checkOf(t, one(t, "li", "role", value, label, "x"), 1, api.RoleGeneric)
			for _, blank := range blanks {
				checkOf(t, one(t, "nav", "role", value, label, blank), 1, api.RoleNone)
			}
		}
		for _, value := range []string{"link", "link none", "zz link", "zz link none button"} { // what stands ahead of none is asked for
			checkOf(t, one(t, "nav", "role", value, label, "x"), 1, api.RoleLink)
		}
	}
	checkOf(t, one(t, "nav", "role", "none", "title", "x"), 1, api.RoleNone)
}

func TestLinks(t *testing.T) {
	for _, value := range append(full, blanks...) {
		checkOf(t, one(t, "a", "href", value), 1, api.RoleLink)
		checkOf(t, one(t, "div", "href", value), 1, api.RoleGeneric)
		checkOf(t, one(t, "button", "href", value), 1, api.RoleButton)
	}
	checkOf(t, one(t, "a", "name", "x", "hrefs", "#"), 1, api.RoleGeneric)
	checkOf(t, one(t, "a", "href", "#", "role", "button"), 1, api.RoleButton)
	checkOf(t, grow(t, one(t, "a", "href", "#"), cleared(1, "href")), 1, api.RoleGeneric)
}

func TestInputs(t *testing.T) {
	for _, value := range []string{"checkbox", "CHECKBOX", " CheckBox\n"} {
		checkOf(t, one(t, "input", "type", value), 1, api.RoleCheck)
		checkOf(t, one(t, "div", "type", value), 1, api.RoleGeneric)
		checkOf(t, one(t, "button", "type", value), 1, api.RoleButton)
	}
	for _, value := range append([]string{"text", "check box", "checkbox x", "checkboxes", "checkbo", "radio", "button"}, blanks...) {
		checkOf(t, one(t, "input", "type", value), 1, api.RoleBox)
	}
	checkOf(t, one(t, "input", "type", "checkbox", "role", "link"), 1, api.RoleLink)
	checkOf(t, one(t, "input", "role", "checkbox"), 1, api.RoleCheck)
}

func TestImages(t *testing.T) {
	for _, value := range blanks {
		checkOf(t, one(t, "img", "alt", value), 1, api.RoleNone)
		checkOf(t, one(t, "img", "alt", value, "title", "x"), 1, api.RoleNone)
		checkOf(t, one(t, "img", "alt", value, "aria-label", "x"), 1, api.RoleImage)
		checkOf(t, one(t, "img", "alt", value, "aria-labelledby", "x"), 1, api.RoleImage)
		checkOf(t, one(t, "img", "alt", value, "aria-label", value), 1, api.RoleNone)
		checkOf(t, one(t, "img", "alt", value, "role", "button"), 1, api.RoleButton)
		checkOf(t, one(t, "img", "alt", value, "role", "img"), 1, api.RoleImage)
		checkOf(t, one(t, "button", "alt", value), 1, api.RoleButton)
		checkOf(t, one(t, "img", "src", value), 1, api.RoleImage)
	}
	for _, value := range full {
		checkOf(t, one(t, "img", "alt", value), 1, api.RoleImage)
		checkOf(t, one(t, "img", "alt", value, "role", "none"), 1, api.RoleNone)
	}
}

func TestSections(t *testing.T) {
	for _, name := range []string{"aria-label", "aria-labelledby", "title"} {
		for _, value := range blanks {
			checkOf(t, one(t, "section", name, value), 1, api.RoleGeneric)
		}
		for _, value := range full {
			checkOf(t, one(t, "section", name, value), 1, api.RoleRegion)
			checkOf(t, one(t, "div", name, value), 1, api.RoleGeneric)
			checkOf(t, one(t, "section", name, value, "role", "group"), 1, api.RoleGroup)
		}
	}
	checkOf(t, one(t, "section", "alt", "x", "name", "x", "id", "x"), 1, api.RoleGeneric)
	checkOf(t, one(t, "section", "role", "region"), 1, api.RoleRegion)
}

func TestWhatIsNeeded(t *testing.T) {
	for _, c := range []struct {
		tags []string
		want []int
	}{
		{[]string{"ul", "li"}, []int{api.RoleList, api.RoleItem}},
		{[]string{"li", "li"}, []int{api.RoleGeneric, api.RoleGeneric}},
		{[]string{"ul", "div", "p", "li"}, []int{api.RoleList, api.RoleGeneric, api.RoleGeneric, api.RoleItem}},
		{[]string{"ul", "button", "li"}, []int{api.RoleList, api.RoleButton, api.RoleGeneric}},
		{[]string{"ul", "main", "li"}, []int{api.RoleList, api.RoleMain, api.RoleGeneric}},
		{[]string{"ul", "li", "li"}, []int{api.RoleList, api.RoleItem, api.RoleGeneric}},
		{[]string{"ul", "li", "li", "li"}, []int{api.RoleList, api.RoleItem, api.RoleGeneric, api.RoleGeneric}},
		{[]string{"ul", "li", "ul", "li"}, []int{api.RoleList, api.RoleItem, api.RoleList, api.RoleItem}},
		{[]string{"li", "ul", "li"}, []int{api.RoleGeneric, api.RoleList, api.RoleItem}},
		{[]string{"table", "tr", "td"}, []int{api.RoleTable, api.RoleRow, api.RoleCell}},
		{[]string{"table", "div", "tr", "div", "td"}, []int{api.RoleTable, api.RoleGeneric, api.RoleRow, api.RoleGeneric, api.RoleCell}},
		{[]string{"tr", "td"}, []int{api.RoleGeneric, api.RoleGeneric}},
		{[]string{"table", "td"}, []int{api.RoleTable, api.RoleGeneric}},
		{[]string{"table", "td", "tr", "td"}, []int{api.RoleTable, api.RoleGeneric, api.RoleRow, api.RoleCell}},
		{[]string{"table", "tr", "tr"}, []int{api.RoleTable, api.RoleRow, api.RoleGeneric}},
		{[]string{"table", "tr", "td", "td"}, []int{api.RoleTable, api.RoleRow, api.RoleCell, api.RoleGeneric}},
		{[]string{"table", "tr", "td", "tr"}, []int{api.RoleTable, api.RoleRow, api.RoleCell, api.RoleGeneric}},
		{[]string{"table", "tr", "li", "td"}, []int{api.RoleTable, api.RoleRow, api.RoleGeneric, api.RoleCell}},
		{[]string{"ul", "tr", "li", "td"}, []int{api.RoleList, api.RoleGeneric, api.RoleItem, api.RoleGeneric}},
		{[]string{"table", "li"}, []int{api.RoleTable, api.RoleGeneric}},
		{[]string{"ul", "tr"}, []int{api.RoleList, api.RoleGeneric}},
	} {
		checkRoles(t, chain(t, c.tags...), c.want...)
	}
	for _, tag := range []string{"li", "tr", "td"} {
		checkOf(t, one(t, tag), 1, api.RoleGeneric)
	}
}

func TestWhatIsNeededMayBeAskedFor(t *testing.T) {
	d := chain(t, "div", "p", "b")
	checkRoles(t, with(t, d, 3, "role", "listitem"), api.RoleGeneric, api.RoleGeneric, api.RoleGeneric)
	d = with(t, d, 1, "role", "table", "aria-label", "x")
	d = with(t, d, 2, "role", "row")
	checkRoles(t, with(t, d, 3, "role", "cell"), api.RoleTable, api.RoleRow, api.RoleCell)
	checkRoles(t, with(t, d, 3, "role", "listitem"), api.RoleTable, api.RoleRow, api.RoleGeneric)
	checkRoles(t, with(t, d, 3, "role", "cell link"), api.RoleTable, api.RoleRow, api.RoleCell)
	// a role that may not stand is generic: neither the next token nor the tag comes in its place
	checkOf(t, one(t, "button", "role", "listitem link"), 1, api.RoleGeneric)
	checkOf(t, one(t, "button", "role", "row"), 1, api.RoleGeneric)
	checkRoles(t, with(t, chain(t, "ul", "li"), 2, "role", "row"), api.RoleList, api.RoleGeneric)
}

func TestTheRootMayBeWhatIsNeeded(t *testing.T) {
	d := chain(t, "div", "tr", "td")
	checkRoles(t, d, api.RoleGeneric, api.RoleGeneric, api.RoleGeneric)
	checkRoles(t, grow(t, d, attr(0, "role", "table")), api.RoleGeneric, api.RoleRow, api.RoleCell)
	checkRoles(t, grow(t, d, attr(0, "role", "none")), api.RoleGeneric, api.RoleGeneric, api.RoleGeneric)
	for _, value := range []string{"row", "cell", "listitem"} { // nothing is around it
		checkOf(t, grow(t, d, attr(0, "role", value)), 0, api.RoleGeneric)
	}
}

func TestWhatIsNoneIsPassedBy(t *testing.T) {
	d := with(t, chain(t, "ul", "ul", "button", "li"), 3, "role", "none")
	checkOf(t, d, 4, api.RoleItem)
	checkOf(t, with(t, d, 2, "role", "presentation"), 4, api.RoleItem)
	checkOf(t, with(t, d, 1, "role", "none"), 4, api.RoleItem)
	checkOf(t, with(t, with(t, d, 1, "role", "none"), 2, "role", "none"), 4, api.RoleGeneric)
	checkOf(t, with(t, d, 3, "aria-label", "x"), 4, api.RoleGeneric) // the button is one then
	img := with(t, chain(t, "ul", "img", "li"), 2, "alt", "")
	checkOf(t, img, 3, api.RoleItem)
	checkOf(t, with(t, img, 2, "alt", "x"), 3, api.RoleGeneric)
}

// TestRolesGoByWhatIsShown: node 3 stands in a list, but is shown in a button there; node 6 stands in none, but is shown in one.
func TestRolesGoByWhatIsShown(t *testing.T) {
	d := build(t,
		element(0, "ul"), // 1
		shadow(1),
		elementS(1, "button"), // 2
		element(1, "li"),      // 3
		element(2, "slot"),    // 4
		element(0, "x-list"),  // 5
		element(5, "li"),      // 6
		shadow(5),
		elementS(5, "ul"),  // 7
		element(7, "slot")) // 8
	checkOf(t, d, 3, api.RoleGeneric)
	checkOf(t, d, 6, api.RoleItem)
	checkOf(t, grow(t, d, attr(2, "role", "none")), 3, api.RoleItem)
	checkOf(t, grow(t, d, removed(8)), 6, api.RoleGeneric) // it is shown nowhere then
	checkOf(t, grow(t, d, attr(4, "name", "s")), 3, api.RoleGeneric)
}

func TestRolesOfWhatIsNotShown(t *testing.T) {
	d := build(t, element(0, "ul"), element(1, "x-empty"), element(2, "li"), element(2, "ul"), element(4, "li"), element(2, "button"), text(6, "t"))
	checkRoles(t, d, api.RoleList, api.RoleGeneric, api.RoleItem, api.RoleList, api.RoleItem, api.RoleButton, api.RoleText)
	d = grow(t, d, shadow(2))
	checkRoles(t, d, api.RoleList, api.RoleGeneric, api.RoleGeneric, api.RoleList, api.RoleItem, api.RoleButton, api.RoleText)
	for n := range d {
		checkHidden(t, d, n, n > 2)
	}
	checkOf(t, with(t, chain(t, "ul", "li"), 1, "hidden", ""), 2, api.RoleItem) // hidden or not, a list is one
}

func TestHidden(t *testing.T) {
	d := build(t, element(0, "div"), element(1, "p"), text(2, "t"), element(0, "b"))
	check := func(d api.Doc, hidden ...int) {
		t.Helper()
		for n := range d {
			checkHidden(t, d, n, slices.Contains(hidden, n))
		}
	}
	check(d)
	for _, value := range append([]string{"false", "until-found"}, blanks...) { // whatever it is
		check(grow(t, d, attr(1, "hidden", value)), 1, 2, 3)
		check(grow(t, d, attr(2, "hidden", value)), 2, 3)
		check(grow(t, d, attr(4, "hidden", value)), 4)
		check(grow(t, d, attr(0, "hidden", value)), 0, 1, 2, 3, 4)
		check(grow(t, d, attr(1, "hidden", value), cleared(1, "hidden")))
	}
	for _, value := range []string{"true", "TRUE", " True", "\ttrue\n"} {
		check(grow(t, d, attr(1, "aria-hidden", value)), 1, 2, 3)
		check(grow(t, d, attr(0, "aria-hidden", value)), 0, 1, 2, 3, 4)
		check(grow(t, d, attr(1, "aria-hidden", value), attr(2, "aria-hidden", "false")), 1, 2, 3)
	}
	for _, value := range append([]string{"false", "true true", "t rue", "yes", "1", "truee", "tru", "true\v", "true\u00a0"}, blanks...) {
		check(grow(t, d, attr(1, "aria-hidden", value)))
	}
	check(with(t, d, 1, "role", "none", "aria-disabled", "true", "hiddens", "", "title", "hidden"))
}

func TestHiddenGoesByWhatIsShown(t *testing.T) {
	d := build(t,
		element(0, "x-host"), // 1
		shadow(1),
		elementS(1, "div"), // 2
		element(2, "slot"), // 3
		text(3, "instead"), // 4: only shown where nothing is given to 3
		element(1, "p"),    // 5
		text(5, "t"),       // 6
		element(1, "b"))    // 7
	d = grow(t, d, attr(7, "slot", "nowhere"), text(7, "t")) // 8
	hidden := func(d api.Doc) []int {
		var l []int
		for n := range d {
			if Hidden(d, n) {
				l = append(l, n)
			}
		}
		return l
	}
	for _, c := range []struct {
		x    api.Change
		want []int
	}{
		{attr(0, "id", "x"), []int{4, 7, 8}},
		{attr(5, "slot", "nowhere"), []int{5, 6, 7, 8}},
		{attr(2, "hidden", ""), []int{2, 3, 4, 5, 6, 7, 8}},
		{attr(3, "aria-hidden", "true"), []int{3, 4, 5, 6, 7, 8}},
		{attr(1, "hidden", ""), []int{1, 2, 3, 4, 5, 6, 7, 8}},
		{attr(5, "hidden", ""), []int{4, 5, 6, 7, 8}},
		{attr(3, "name", "nowhere"), []int{4, 5, 6}},
		{cleared(7, "slot"), []int{4}},
		{moved(7, 0, -1), []int{4}},
		{moved(5, 7, -1), []int{5, 6, 7, 8}},
	} {
		if got := hidden(grow(t, d, c.x)); !slices.Equal(got, c.want) {
			t.Errorf("%+v: %v are hidden, not %v", c.x, got, c.want)
		}
	}
}

func TestNumbersThatAreNoNodes(t *testing.T) {
	d := build(t, element(0, "ul"), element(0, "p"), element(1, "li"), attr(2, "aria-label", "x"), attr(2, "role", "list"), removed(2))
	if len(d) != 4 {
		t.Fatalf("there are %d nodes", len(d))
	}
	for _, n := range []int{math.MinInt, -60, -2, -1, 2, 4, 5, 60, math.MaxInt} {
		checkLabelled(t, d, n, false)
		checkOf(t, d, n, api.RoleNone)
		checkHidden(t, d, n, true)
	}
	for _, d := range []api.Doc{nil, {}} {
		for n := -1; n < 2; n++ {
			checkLabelled(t, d, n, false)
			checkOf(t, d, n, api.RoleNone)
			checkHidden(t, d, n, true)
		}
	}
}

// deep is as many nodes as there may be, nearly all of them of that tag, shown within one another: what stands in one with a shadow tree is shown at that tree's end.
func deep(t *testing.T, tag string) api.Doc {
	t.Helper()
	d := dom.New()
	for host := 0; ; {
		d = grow(t, d, element(host, tag))
		host = len(d) - 1
		d = grow(t, d, shadow(host), elementS(host, tag))
		for dom.Deep(d, len(d)-1) < api.MaxDeep-1 && len(d) < api.MaxNodes {
			d = grow(t, d, element(len(d)-1, tag))
		}
		if len(d) > api.MaxNodes-3 {
			return d
		}
		d = grow(t, d, element(len(d)-1, "slot"))
	}
}

// TestManyThatNeedOthersWithinEachOther: if each one asked all those above it anew, this would not end.
func TestManyThatNeedOthersWithinEachOther(t *testing.T) {
	d := deep(t, "li")
	shown := flat.Shown(d)
	if len(shown) != len(d) || len(d) < api.MaxNodes-2 {
		t.Fatalf("%d of %d nodes are shown", len(shown), len(d))
	}
	last := shown[len(shown)-1]
	up := last
	for above := len(d) - 1; above > 0; above-- {
		if up = flat.Up(d, up); up < 0 {
			t.Fatalf("only %d are above the last one", len(d)-1-above)
		}
	}
	for _, n := range shown[1:] {
		checkOf(t, d, n, api.RoleGeneric)
		checkHidden(t, d, n, false)
	}
	d = grow(t, d, attr(0, "role", "list"), attr(0, "hidden", ""))
	for i, n := range shown[1:] {
		want := api.RoleGeneric // in the first one, which is in the list
		if i == 0 {
			want = api.RoleItem
		}
		checkOf(t, d, n, want)
		checkHidden(t, d, n, true)
	}
	d = grow(t, d, attr(1, "role", "none"), attr(last, "role", "cell"))
	checkOf(t, d, last, api.RoleGeneric)
	checkOf(t, d, 1, api.RoleNone)
	checkOf(t, d, 2, api.RoleItem)
}

// TestNothingStandsAloneThatMayNot holds roles against each other, climbing from each node by itself.
func TestNothingStandsAloneThatMayNot(t *testing.T) {
	next := rule(5)
	var kept, lost int
	for range 1000 {
		d := grown(next)
		for n := range d {
			around := api.RoleNone
			for up := flat.Up(d, n); up >= 0 && around == api.RoleNone; up = flat.Up(d, up) {
				if role := Of(d, up); role != api.RoleGeneric {
					around = role
				}
			}
			if need := kinds.Of(Of(d, n)).Need; need != 0 {
				kept++
				if around != need {
					t.Errorf("%d is role %d in role %d", n, Of(d, n), around)
				}
			}
			if own := d[n].Tag; slices.Contains([]string{"li", "tr", "td"}, own) && Said(d, n, "role") == "" {
				want := kinds.Tag(own)
				if kinds.Of(want).Need != around {
					want = api.RoleGeneric
					lost++
				}
				checkOf(t, d, n, want)
			}
		}
	}
	if kept < 300 || lost < 300 {
		t.Errorf("only %d need others, and have them, and %d have not", kept, lost)
	}
}

func TestWhatIsInWhatIsHiddenIsHidden(t *testing.T) {
	next := rule(6)
	var hidden, shown int
	for range 300 {
		d := grown(next)
		all := flat.Shown(d)
		for n := range d {
			self := false
			for _, a := range d[n].Attrs {
				self = self || a.Name == "hidden" || a.Name == "aria-hidden" && a.Value == " True"
			}
			want := self || !slices.Contains(all, n) || n != 0 && Hidden(d, flat.Up(d, n))
			checkHidden(t, d, n, want)
			if want {
				hidden++
			} else {
				shown++
			}
		}
	}
	if hidden < 300 || shown < 300 {
		t.Errorf("only %d are hidden, and %d are not", hidden, shown)
	}
}

func TestWhatIsHandedInIsOnlyRead(t *testing.T) {
	next := rule(7)
	for range 30 {
		d := grown(next)
		given := roomy(d)
		was := whole(given)
		for n := -1; n < len(d)+2; n++ {
			checkLabelled(t, given, n, Labelled(d, n))
			checkOf(t, given, n, Of(d, n))
			checkHidden(t, given, n, Hidden(d, n))
			checkOf(t, given, n, Of(given, n)) // twice as once
		}
		if !same(whole(given), was) {
			t.Errorf("what was handed in is changed")
		}
	}
}
