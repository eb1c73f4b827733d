package tree

import (
	"math"
	"slices"
	"testing"

	"townreader/api"
	"townreader/dom"
	"townreader/owns"
	"townreader/role"
)

// strange: numbers that no node of a document has.
var strange = []int{math.MinInt, -60, -2, -1, 60, 61, math.MaxInt}

func TestLevelsOfHeadings(t *testing.T) {
	for tag, want := range map[string]int{"h1": 1, "h2": 2, "h3": 3} {
		d := one(t, tag)
		checkLevel(t, d, 1, want)
		checkLevel(t, d, 2, 0)
		checkLevel(t, d, 0, 0)
		checkLevel(t, with(t, d, 1, "role", "none", "title", "t"), 1, 0)
		checkLevel(t, with(t, d, 1, "role", "button"), 1, 0)
		checkLevel(t, with(t, d, 1, "role", " Heading link"), 1, want)
	}
	for _, tag := range []string{"h4", "h6", "h", "h11", "p", "button", "ul", "li"} {
		checkLevel(t, with(t, one(t, tag), 1, "role", "heading"), 1, 2)
	}
	checkLevel(t, one(t, "h4"), 1, 0) // it is generic
	checkLevel(t, with(t, dom.New(), 0, "role", "heading"), 0, 2)
}

func TestAHeadingDoesNotCountThoseAroundIt(t *testing.T) {
	d := build(t, element(0, "h1"), element(1, "h1"), element(2, "h2"), element(3, "p"), attr(4, "role", "heading"))
	for n, want := range []int{0, 1, 1, 2, 2} {
		checkLevel(t, d, n, want)
	}
}

// TestWhichRolesHaveLevels: of others aria-level says nothing.
func TestWhichRolesHaveLevels(t *testing.T) {
	for _, name := range []string{"group", "main", "navigation", "list", "link", "button", "checkbox", "img", "textbox", "table", "region", "dialog", "generic", "none", "row", "cell", "listitem", "text"} {
		checkLevel(t, one(t, "p", "role", name), 1, 0)
		checkLevel(t, one(t, "p", "role", name, "aria-level", "3"), 1, 0)
	}
	checkLevel(t, one(t, "p", "role", "heading", "aria-level", "3"), 1, 3)
	d := build(t, element(0, "table"), element(1, "tr"), element(2, "td"), attr(2, "aria-level", "3"), attr(3, "aria-level", "3"))
	checkLevel(t, d, 2, 0)
	checkLevel(t, d, 3, 0)
}

func TestAriaLevel(t *testing.T) {
	said := map[string]int{"1": 1, "2": 2, "9": 9, " 7\n": 7, "07": 7, "\t01": 1}
	for _, none := range []string{"", " ", "0", "00", "10", "99", "007", "x", "1 2", "-1", "+1", "1.", "1a", "\v1", "\u0661"} {
		said[none] = 0
	}
	for value, want := range said {
		heading := one(t, "h3", "aria-level", value)
		list := build(t, element(0, "ul"), element(1, "li"), element(2, "ul"), element(3, "li"), attr(4, "aria-level", value))
		if want > 0 {
			checkLevel(t, heading, 1, want)
			checkLevel(t, list, 4, want)
		} else {
			checkLevel(t, heading, 1, 3)
			checkLevel(t, list, 4, 2)
		}
		checkLevel(t, list, 2, 1)
	}
}

func TestLevelsOfListItems(t *testing.T) {
	d := build(t, element(0, "ul"), element(1, "li"), element(2, "div"), element(3, "ul"), element(4, "li"), element(5, "ul"), element(6, "li"), element(1, "li"))
	for n, want := range []int{0, 0, 1, 0, 0, 2, 0, 3, 1} {
		checkLevel(t, d, n, want)
	}
	// what an outer one says of itself does not change how many there are
	checkLevel(t, grow(t, d, attr(2, "aria-level", "7")), 5, 2)
	// an outer one that is no listitem does not count
	checkLevel(t, grow(t, d, attr(2, "role", "none")), 5, 1)
	checkLevel(t, grow(t, d, attr(2, "role", "heading")), 7, 2)
	// one that is in no list is generic
	d = grow(t, d, attr(4, "role", "group"))
	for n, want := range []int{0, 0, 1, 0, 0, 0, 0, 2, 1} {
		checkLevel(t, d, n, want)
	}
}

func TestLevelsGoByWhoOwns(t *testing.T) {
	// the list of 4 is shown beside 1, but 2, an item of 1, owns that list
	d := build(t, element(0, "ul"), element(1, "li"), element(0, "ul"), id(3, "x"), element(3, "li"), owning(2, "x"))
	checkLevel(t, d, 4, 2)
	if got := Level(d, nil, 4); got != 1 {
		t.Errorf("Level = %d without claims", got)
	}
	if got := Level(d, []api.Claim{}, 4); got != 1 {
		t.Errorf("Level = %d with a list of no claims", got)
	}
	checkLevel(t, grow(t, d, cleared(2, "aria-owns")), 4, 1)
	// what an item stands in does not count, if another one owns it
	d = build(t, element(0, "ul"), element(1, "li"), element(2, "ul"), element(3, "li"), id(3, "x"), element(0, "div"), owning(5, "x"))
	checkLevel(t, d, 4, 1)
	// its role goes by where it is shown
	d = build(t, element(0, "ul"), element(1, "li"), id(2, "x"), element(0, "div"), owning(3, "x"))
	checkLevel(t, d, 2, 1)
}

func TestLevelsGoByWhatIsShown(t *testing.T) {
	// in the shadow tree of 2 stands a list with an item, and in it the slot of 7
	d := build(t, element(0, "ul"), element(1, "li"), shadow(2), elementS(2, "ul"), element(3, "li"), element(4, "slot"), element(2, "ul"), element(6, "li"))
	checkLevel(t, d, 2, 1)
	checkLevel(t, d, 4, 2)
	checkLevel(t, d, 7, 3)
	// what goes to no slot is in nothing
	d = grow(t, d, attr(6, "slot", "nowhere"))
	checkLevel(t, d, 6, 0)
	checkLevel(t, d, 7, 1)
}

func TestLevelsOfWhatIsHidden(t *testing.T) {
	d := build(t, element(0, "ul"), element(1, "li"), hidden(0), element(0, "h3"))
	checkLevel(t, d, 2, 1)
	checkLevel(t, d, 3, 3)
}

func TestOfWhatIsNoNodeThereIsNothing(t *testing.T) {
	d := build(t, element(0, "h1"), element(0, "h1"), element(0, "input"), attr(3, "type", "checkbox"), removed(1))
	for _, n := range append([]int{1, 4}, strange...) {
		checkLevel(t, d, n, 0)
		checkChecked(t, d, n, 0)
	}
	for _, none := range []api.Doc{nil, {}} {
		for _, n := range append([]int{0, 1}, strange...) {
			checkLevel(t, none, n, 0)
			checkChecked(t, none, n, 0)
		}
	}
	checkLevel(t, d, 2, 1)
	checkChecked(t, d, 3, 1)
}

// TestLevelEndsByOlderClaims: by these 2 is in 4, and 4 is shown in 2.
func TestLevelEndsByOlderClaims(t *testing.T) {
	d := build(t, element(0, "ul"), element(1, "li"), element(0, "ul"), element(3, "li"), id(2, "x"), owning(4, "x"))
	claims := owns.Claims(d)
	d = grow(t, d, moved(3, 2, -1))
	for n := range d {
		if got, has := Level(d, claims, n), role.Of(d, n) == api.RoleItem; (got > 0) != has {
			t.Errorf("Level(%d) = %d", n, got)
		}
	}
}

func TestLevelsOfManyDocuments(t *testing.T) {
	next, most := rule(5), 0
	for range 400 {
		d := grown(next)
		claims := owns.Claims(d)
		for n := range d {
			want := levelByHand(d, claims, n)
			checkLevel(t, d, n, want)
			checkChecked(t, d, n, checkedByHand(d, n))
			most = max(most, want)
		}
	}
	if most < 9 {
		t.Errorf("no level is above %d", most)
	}
}

func levelByHand(d api.Doc, claims []api.Claim, n int) int {
	is := role.Of(d, n)
	if is != api.RoleHeading && is != api.RoleItem {
		return 0
	}
	value := role.Said(d, n, "aria-level")
	if at := slices.Index([]string{"1", "2", "3", "4", "5", "6", "7", "8", "9"}, value); at >= 0 {
		return at + 1
	}
	if is == api.RoleHeading {
		return map[string]int{"h1": -1, "h3": 1}[d[n].Tag] + 2
	}
	for up := owns.Up(d, claims, n); up >= 0; up = owns.Up(d, claims, up) {
		if role.Of(d, up) == api.RoleItem {
			return 1 + itemsFrom(d, claims, up)
		}
	}
	return 1
}

// itemsFrom counts the listitems from n on upwards, whatever they say of their levels.
func itemsFrom(d api.Doc, claims []api.Claim, n int) int {
	switch {
	case n < 0:
		return 0
	case role.Of(d, n) == api.RoleItem:
		return 1 + itemsFrom(d, claims, owns.Up(d, claims, n))
	}
	return itemsFrom(d, claims, owns.Up(d, claims, n))
}

func checkedByHand(d api.Doc, n int) int {
	if role.Of(d, n) != api.RoleCheck {
		return 0
	}
	_, has := dom.Attr(d, n, "checked")
	switch said := role.Said(d, n, "aria-checked"); {
	case said == "true" || said == "True":
		return 2
	case said == "mixed":
		return 3
	case has:
		return 2
	}
	return 1
}

func TestChecked(t *testing.T) {
	boxes := []api.Doc{one(t, "input", "type", " CheckBox"), one(t, "p", "role", "checkbox"), one(t, "input", "role", "checkbox"), one(t, "button", "role", "zz CHECKBOX")}
	for _, d := range boxes {
		checkChecked(t, d, 1, 1)
		checkChecked(t, d, 2, 0)
		checkChecked(t, d, 0, 0)
		for _, value := range []string{"", "false", "no"} {
			checkChecked(t, with(t, d, 1, "checked", value), 1, 2)
		}
		for value, want := range map[string]int{
			"true": 2, " TRUE\n": 2, "tRue": 2, "mixed": 3, "\tMixed": 3,
			"false": 1, "": 1, " ": 1, "tru": 1, "true mixed": 1, "true true": 1, "1": 1, "checked": 1, "2": 1,
		} {
			d := with(t, d, 1, "aria-checked", value)
			checkChecked(t, d, 1, want)
			if want == 1 {
				want = 2
			}
			checkChecked(t, with(t, d, 1, "checked", "x"), 1, want)
		}
	}
}

// TestWhichRolesMayBeChecked: of others neither attribute says anything.
func TestWhichRolesMayBeChecked(t *testing.T) {
	for _, name := range []string{"group", "main", "navigation", "heading", "list", "listitem", "link", "button", "img", "textbox", "table", "row", "cell", "region", "dialog", "generic", "none", "text"} {
		checkChecked(t, one(t, "p", "role", name, "aria-checked", "true", "checked", ""), 1, 0)
	}
	checkChecked(t, one(t, "input", "aria-checked", "mixed", "checked", ""), 1, 0) // a text box
	checkChecked(t, one(t, "input", "type", "checkbox", "role", "button", "checked", ""), 1, 0)
	checkChecked(t, with(t, dom.New(), 0, "role", "checkbox", "aria-checked", "mixed"), 0, 3)
}
