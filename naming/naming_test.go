package naming

import (
	"math"
	"slices"
	"strings"
	"testing"

	"townreader/api"
	"townreader/dom"
	"townreader/flat"
	"townreader/kinds"
	"townreader/owns"
	"townreader/role"
	"townreader/words"
)

// strange: numbers that no node of a document has.
var strange = []int{math.MinInt, -60, -2, -1, 60, 61, math.MaxInt}

func TestAButtonIsCalledByItsText(t *testing.T) {
	d := build(t, element(0, "button"), text(1, " save  it "))
	checkMemo(t, d, 1, "save it", "", 0, 1, 2)
	checkMemo(t, d, 2, "save it", "", 0, 1, 2)
	checkMemo(t, d, 0, "", "", 0)
}

func TestOfWhatIsNoNodeThereIsNothing(t *testing.T) {
	d := build(t, element(0, "button"), text(1, "a"), element(0, "button"), text(3, "b"), removed(1))
	for _, n := range append([]int{1, 2, 5}, strange...) {
		checkMemo(t, d, n, "", "")
		for _, none := range []api.Doc{nil, {}} {
			checkMemo(t, none, n, "", "")
		}
	}
	checkMemo(t, d, 3, "b", "", 0, 3, 4)
	checkMemo(t, nil, 0, "", "")
}

func TestClaimsMayBeNone(t *testing.T) {
	d := one(t, "button")
	for _, l := range [][]api.Claim{nil, {}} {
		if got := Of(d, l, 1).Name; got != "in it" {
			t.Errorf("Name = %q without claims", got)
		}
	}
}

func TestATextIsCalledByItself(t *testing.T) {
	for value, want := range map[string]string{"": "", " \t\r\n": "", "a": "a", "\n a \t\r b ": "a b", "a\vb\u00a0c": "a\vb\u00a0c", "\xff  \xfe": "\xff \xfe", "A  a": "A a"} {
		checkMemo(t, build(t, text(0, value)), 1, want, "", 0, 1)
	}
}

// TestWhichRolesHaveNames: and of which of these it comes of what is in them.
func TestWhichRolesHaveNames(t *testing.T) {
	content := []string{"heading", "link", "button", "checkbox"}
	others := []string{"group", "main", "navigation", "list", "img", "textbox", "table", "region", "dialog"}
	for _, name := range append(slices.Clone(content), others...) {
		d := one(t, "p", "role", name)
		if slices.Contains(content, name) {
			checkMemo(t, d, 1, "in it", "", 0, 1, 2)
		} else {
			checkMemo(t, d, 1, "", "", 0, 1)
		}
		d = with(t, d, 1, "aria-label", "l", "title", "t")
		checkMemo(t, d, 1, "l", "t", 0, 1)
	}
	for _, name := range []string{"none", "presentation", "generic", "text", "listitem", "row", "cell", "zz"} {
		checkMemo(t, one(t, "p", "role", name, "title", "t", "aria-describedby", "x"), 1, "", "", 0, 1)
	}
	for _, name := range []string{"generic", "text", "listitem", "row", "cell"} {
		checkMemo(t, one(t, "p", "role", name, "aria-label", "l", "aria-labelledby", "x"), 1, "", "", 0, 1)
	}
}

func TestRowsAndCellsWhereTheyMayStand(t *testing.T) {
	d := build(t, element(0, "table"), element(1, "tr"), element(2, "td"), text(3, "a"), element(2, "td"), text(5, "b"))
	checkMemo(t, d, 1, "", "", 0, 1)
	checkMemo(t, d, 2, "a b", "", 0, 1, 2, 3, 4, 5, 6)
	checkMemo(t, d, 5, "b", "", 0, 1, 2, 5, 6)
	d = grow(t, d, attr(1, "role", "group"))
	checkMemo(t, d, 2, "", "", 0, 1, 2)
	d = build(t, element(0, "ul"), element(1, "li"), text(2, "a"), attr(2, "title", "t"))
	checkMemo(t, d, 2, "", "", 0, 1, 2)
}

func TestTheFirstOneThatIsNotEmpty(t *testing.T) {
	d := one(t, "img", "aria-labelledby", "x", "aria-label", "label", "alt", "alt", "role", "button", "title", "title")
	for _, c := range []struct {
		attr, want string
		uses       []int
	}{
		{"", "beside", []int{0, 1, 3, 4}},
		{"aria-labelledby", "label", []int{0, 1}},
		{"aria-label", "alt", []int{0, 1}},
		{"alt", "in it", []int{0, 1, 2}},
		{"", "in it", []int{0, 1, 2}},
	} {
		blank := d
		if c.attr != "" {
			blank, d = with(t, d, 1, c.attr, " \t"), grow(t, d, cleared(1, c.attr))
		}
		for _, e := range []api.Doc{d, blank} {
			checkName(t, e, 1, c.want)
			checkUses(t, e, 1, c.uses...)
		}
	}
	d = grow(t, d, removed(2))
	checkMemo(t, d, 1, "title", "", 0, 1)
	checkMemo(t, with(t, d, 1, "title", "  "), 1, "", "", 0, 1)
	checkMemo(t, grow(t, d, cleared(1, "title")), 1, "", "", 0, 1)
}

func TestAttributesAreSaid(t *testing.T) {
	checkName(t, one(t, "nav", "aria-label", " a \n b"), 1, "a b")
	checkName(t, one(t, "nav", "title", " a \n b"), 1, "a b")
	checkName(t, one(t, "img", "alt", "\ta\r b"), 1, "a b")
	checkAbout(t, one(t, "button", "title", " a \n b"), 1, "a b")
	d := build(t, element(0, "button"), element(1, "input"), attr(2, "value", " a \n b"))
	checkName(t, d, 1, "a b")
	checkName(t, one(t, "nav", "label", "a", "name", "b", "value", "c", "alt", "d", "placeholder", "e"), 1, "")
}

func TestALabelOfItsOwnIsAheadOfWhatIsInIt(t *testing.T) {
	checkMemo(t, one(t, "button", "aria-label", "l"), 1, "l", "", 0, 1)
	checkMemo(t, one(t, "button", "title", "t"), 1, "in it", "t", 0, 1, 2)
	checkMemo(t, one(t, "nav", "title", "t"), 1, "t", "", 0, 1)
	d := build(t, element(0, "button"), element(1, "b"), text(2, "a"), attr(2, "aria-label", "l"), attr(2, "title", "t"))
	checkMemo(t, d, 1, "l", "", 0, 1, 2)
	checkMemo(t, grow(t, d, cleared(2, "aria-label")), 1, "a", "", 0, 1, 2, 3)
	checkMemo(t, grow(t, d, cleared(2, "aria-label"), removed(3)), 1, "t", "", 0, 1, 2)
}

// words123 is three divs, with a text in each: 1, a, with `one`, 3, b, with `two`, and 5, c, with `three`; then 7, a nav.
func words123(t *testing.T) api.Doc {
	t.Helper()
	return build(t, element(0, "div"), text(1, "one"), element(0, "div"), text(3, " two"), element(0, "div"), text(5, "three "), element(0, "nav"),
		id(1, "a"), id(3, "b"), id(5, "c"))
}

func TestWhatIsListed(t *testing.T) {
	d := words123(t)
	for ids, want := range map[string]string{
		"": "", "zz": "", "A": "", "a,b": "", "#a": "", "a\vb": "",
		"a": "one", " b ": "two", "a c": "one three", "c\t\na": "three one", "c zz b a": "three two one",
		"a a": "one", "b a b": "two one",
	} {
		checkName(t, grow(t, d, labelledby(7, ids)), 7, want)
		checkAbout(t, grow(t, d, attr(7, "aria-label", "l"), describedby(7, ids)), 7, want)
	}
	checkMemo(t, grow(t, d, labelledby(7, "c zz a")), 7, "three one", "", 0, 1, 2, 5, 6, 7)
	checkMemo(t, grow(t, d, labelledby(7, "c"), describedby(7, "a")), 7, "three", "one", 0, 1, 2, 5, 6, 7)
}

func TestWhatIsListedIsNotAskedTwice(t *testing.T) {
	d := grow(t, words123(t), moved(3, 1, -1))
	checkName(t, d, 7, "")
	checkName(t, grow(t, d, labelledby(7, "a b")), 7, "one two") // 3 was asked within 1
	checkName(t, grow(t, d, labelledby(7, "b a")), 7, "two one")
	checkName(t, grow(t, d, labelledby(7, "b c a")), 7, "two three one")
	checkUses(t, grow(t, d, labelledby(7, "b")), 7, 0, 1, 3, 4, 7)
}

func TestWhatListsItself(t *testing.T) {
	d := grow(t, words123(t), id(7, "d"))
	checkMemo(t, grow(t, d, labelledby(7, "d")), 7, "", "", 0, 7)
	checkMemo(t, grow(t, d, labelledby(7, "d"), attr(7, "aria-label", "l")), 7, "l", "", 0, 7)
	checkMemo(t, grow(t, d, labelledby(7, "d a"), attr(7, "aria-label", "l")), 7, "one", "", 0, 1, 2, 7)
	checkMemo(t, grow(t, d, describedby(7, "d"), attr(7, "aria-label", "l")), 7, "l", "", 0, 7)
	d = build(t, element(0, "button"), text(1, "a"), id(1, "x"), labelledby(1, "x"), describedby(1, "x"))
	checkMemo(t, d, 1, "a", "", 0, 1, 2)
}

func TestWhatIsInItMayBeListed(t *testing.T) {
	d := build(t, element(0, "button"), element(1, "b"), text(2, "a"), text(1, "c"), id(2, "x"), labelledby(1, "x"), describedby(1, "x"))
	checkMemo(t, d, 1, "a", "a", 0, 1, 2, 3)
	d = grow(t, d, removed(3))
	checkMemo(t, d, 1, "c", "", 0, 1, 2, 4) // 2 was asked, and said nothing: 4 is left
	d = build(t, element(0, "button"), element(1, "b"), element(0, "i"), labelledby(1, "x y"), id(2, "x"), id(3, "y"), element(1, "input"), attr(4, "value", "v"))
	checkMemo(t, d, 1, "v", "", 0, 1, 2, 3, 4)
}

// TestListsAreFollowedOnce: who is asked for another one's name does not ask those that it lists.
func TestListsAreFollowedOnce(t *testing.T) {
	d := grow(t, words123(t), labelledby(1, "b"), labelledby(3, "c"), labelledby(7, "a"))
	checkMemo(t, d, 7, "one", "", 0, 1, 2, 7)
	checkMemo(t, grow(t, d, removed(2)), 7, "", "", 0, 1, 7)
	d = build(t, element(0, "button"), element(1, "b"), element(0, "i"), text(3, "t"), id(3, "x"), labelledby(2, "x"), describedby(2, "x"))
	checkMemo(t, d, 1, "", "", 0, 1, 2)
	d = build(t, element(0, "nav"), element(0, "nav"), id(1, "a"), id(2, "b"), labelledby(1, "b"), labelledby(2, "a"), attr(1, "title", "s"), attr(2, "title", "t"))
	checkMemo(t, d, 1, "t", "s", 0, 1, 2)
	checkMemo(t, d, 2, "s", "t", 0, 1, 2)
}

// TestWhoIsListedIsAskedForWhatIsInIt: whatever its role.
func TestWhoIsListedIsAskedForWhatIsInIt(t *testing.T) {
	for _, tag := range []string{"div", "nav", "section", "ul", "table", "button", "label", "slot"} {
		d := build(t, element(0, tag), text(1, "a"), element(1, tag), text(3, "b"), id(1, "x"), element(0, "img"), labelledby(5, "x"))
		checkMemo(t, d, 5, "a b", "", 0, 1, 2, 3, 4, 5)
	}
	d := build(t, element(0, "div"), text(1, "a"), attr(1, "role", "none"), attr(1, "title", "t"), id(1, "x"), element(0, "img"), labelledby(3, "x"))
	checkName(t, d, 3, "a")
	checkName(t, grow(t, d, removed(2)), 3, "t")
}

func TestIdsAreOfOneScope(t *testing.T) {
	d := build(t, element(0, "x-host"), shadow(1), elementS(1, "nav"), elementS(1, "p"), text(3, "shadow"), id(3, "x"),
		element(0, "p"), text(5, "light"), id(5, "x"), element(0, "nav"), labelledby(2, "x"), labelledby(7, "x"))
	checkMemo(t, d, 2, "shadow", "", 0, 1, 2, 3, 4)
	checkMemo(t, d, 7, "light", "", 0, 5, 6, 7)
	checkName(t, grow(t, d, id(5, "y"), labelledby(2, "y")), 2, "")
	checkName(t, grow(t, d, id(5, "y")), 7, "")
}

func TestWhatIsHiddenHasNoName(t *testing.T) {
	for _, name := range []string{"hidden", "aria-hidden"} {
		d := one(t, "button", name, "true", "aria-labelledby", "x", "aria-label", "l")
		checkMemo(t, d, 1, "", "", 0, 1)
		checkMemo(t, d, 2, "", "", 0, 1, 2)
		d = build(t, element(0, "button"), text(1, "a"), element(1, "b"), text(3, "b"), text(1, "c"), attr(3, name, "true"))
		checkMemo(t, d, 1, "a c", "", 0, 1, 2, 3, 5)
	}
}

func TestWhatIsShownNowhereHasNoName(t *testing.T) {
	d := build(t, element(0, "x-host"), shadow(1), element(1, "button"), text(2, "a"), id(2, "x"), element(0, "nav"))
	checkMemo(t, d, 2, "", "", 2)
	checkMemo(t, d, 3, "", "", 2, 3)
	checkMemo(t, grow(t, d, labelledby(4, "x")), 4, "a", "", 0, 2, 3, 4)
	d = grow(t, d, elementS(1, "slot"))
	checkMemo(t, d, 2, "a", "", 0, 1, 2, 3, 5)
}

func TestWhatIsHiddenIsToldWhereItWasListed(t *testing.T) {
	d := grow(t, words123(t), hidden(1), hidden(3), moved(3, 1, -1))
	checkMemo(t, grow(t, d, labelledby(7, "a")), 7, "one two", "", 0, 1, 2, 3, 4, 7)
	checkMemo(t, grow(t, d, labelledby(7, "b")), 7, "two", "", 0, 1, 3, 4, 7)
	checkMemo(t, grow(t, d, describedby(7, "b"), attr(7, "aria-label", "l")), 7, "l", "two", 0, 1, 3, 4, 7)
	// what is in one that is listed was listed, hidden by itself or not
	d = grow(t, words123(t), hidden(3), moved(3, 1, -1), labelledby(7, "a"))
	checkName(t, d, 7, "one two")
	d = grow(t, words123(t), hidden(7), labelledby(7, "a"))
	checkMemo(t, d, 7, "", "", 0, 7)
}

// TestListedIsWhoIsReachedByTheList: what hides itself in a button is not told, though another way to it is.
func TestListedIsWhoIsReachedByTheList(t *testing.T) {
	d := build(t, element(0, "button"), element(1, "b"), text(2, "a"), hidden(2), id(2, "x"), element(0, "nav"), labelledby(4, "x"), id(1, "y"))
	checkName(t, d, 1, "")
	checkName(t, d, 4, "a")
	checkName(t, grow(t, d, labelledby(4, "y")), 4, "a")
}

func TestATextboxWithinAName(t *testing.T) {
	d := build(t, element(0, "button"), text(1, "at"), element(1, "input"), text(1, "hours"))
	checkMemo(t, d, 1, "at hours", "", 0, 1, 2, 3, 4)
	d = with(t, d, 3, "value", " 9 ", "title", "t", "alt", "a")
	checkMemo(t, d, 1, "at 9 hours", "", 0, 1, 2, 3, 4)
	checkMemo(t, d, 3, "t", "", 0, 1, 3)
	checkName(t, with(t, d, 3, "value", " "), 1, "at hours") // and nothing else
	checkName(t, grow(t, d, cleared(3, "value")), 1, "at hours")
	checkName(t, with(t, d, 3, "aria-label", "l"), 1, "at l hours")
	checkName(t, with(t, d, 3, "type", "checkbox"), 1, "at t hours")
	checkName(t, with(t, d, 3, "role", "group"), 1, "at t hours")
}

func TestATextboxOfAnotherTag(t *testing.T) {
	d := build(t, element(0, "h1"), element(1, "div"), text(2, "typed"), attr(2, "role", "textbox"), id(2, "x"), element(0, "nav"), labelledby(4, "x"))
	for _, n := range []int{1, 4} {
		checkName(t, d, n, "")
		checkName(t, with(t, d, 2, "value", "v"), n, "v")
		checkName(t, with(t, d, 2, "role", "group", "value", "v"), n, "typed")
	}
	checkUses(t, d, 1, 0, 1, 2)
	checkMemo(t, build(t, element(0, "img"), attr(1, "role", "textbox"), attr(1, "alt", "a"), element(0, "nav"), labelledby(2, "x"), id(1, "x")), 2, "", "", 0, 1, 2)
}

func TestATextboxsOwnNameIsNotItsValue(t *testing.T) {
	d := build(t, element(0, "input"), attr(1, "value", "v"))
	checkMemo(t, d, 1, "", "", 0, 1)
	checkMemo(t, with(t, d, 1, "title", "t"), 1, "t", "", 0, 1)
	d = one(t, "div", "role", "textbox", "value", "v")
	checkMemo(t, d, 1, "", "", 0, 1)
}

func TestPictures(t *testing.T) {
	checkMemo(t, one(t, "img", "alt", "a cat"), 1, "a cat", "", 0, 1)
	checkMemo(t, one(t, "img", "alt", "a cat", "title", "t"), 1, "a cat", "t", 0, 1)
	checkMemo(t, one(t, "img", "title", "t"), 1, "t", "", 0, 1)
	checkMemo(t, one(t, "img", "alt", " ", "title", "t"), 1, "", "", 0, 1) // it is none
	checkMemo(t, one(t, "img", "alt", "a", "role", "link"), 1, "a", "", 0, 1)
	checkMemo(t, one(t, "div", "alt", "a", "role", "img"), 1, "", "", 0, 1)
	d := build(t, element(0, "a"), attr(1, "href", ""), element(1, "img"), text(1, "b"), attr(2, "alt", " a"))
	checkMemo(t, d, 1, "a b", "", 0, 1, 2, 3)
	checkName(t, with(t, d, 2, "role", "none"), 1, "a b") // a role that is not told of does not matter here
	checkName(t, with(t, d, 2, "alt", "", "title", "t"), 1, "t b")
}

// field is a label, 1, with the text `Name`, 2, for what has the id box: 3, an input.
func field(t *testing.T) api.Doc {
	t.Helper()
	return build(t, element(0, "label"), text(1, "Name"), element(0, "input"), attr(1, "for", "box"), id(3, "box"))
}

func TestLabels(t *testing.T) {
	d := field(t)
	checkMemo(t, d, 3, "Name", "", 0, 1, 2, 3)
	checkMemo(t, d, 1, "", "", 0, 1)
	checkMemo(t, with(t, d, 3, "type", "checkbox"), 3, "Name", "", 0, 1, 2, 3)
	checkMemo(t, with(t, d, 3, "role", "group"), 3, "Name", "", 0, 1, 2, 3)
	checkMemo(t, with(t, d, 3, "title", "t", "alt", "a"), 3, "Name", "t", 0, 1, 2, 3)
	checkMemo(t, with(t, d, 3, "aria-label", "l"), 3, "l", "", 0, 3)
	checkMemo(t, with(t, d, 1, "aria-label", "l"), 3, "l", "", 0, 1, 3)
	checkMemo(t, grow(t, d, removed(2), attr(1, "title", "t")), 3, "t", "", 0, 1, 3)
	checkMemo(t, grow(t, d, removed(2), attr(3, "title", "t")), 3, "t", "", 0, 1, 3)
	checkMemo(t, grow(t, d, moved(1, 0, -1)), 3, "Name", "", 0, 1, 2, 3)
	checkMemo(t, grow(t, d, hidden(1), attr(3, "title", "t")), 3, "t", "", 0, 1, 3)
}

func TestALabelIsAheadOfWhatIsInIt(t *testing.T) {
	d := with(t, grow(t, field(t), text(3, "in it")), 3, "role", "checkbox")
	checkMemo(t, d, 3, "Name", "", 0, 1, 2, 3)
	checkMemo(t, grow(t, d, cleared(1, "for")), 3, "in it", "", 0, 3, 4)
	checkMemo(t, grow(t, d, removed(2)), 3, "in it", "", 0, 1, 3, 4)
}

func TestWhichLabelsAreMeant(t *testing.T) {
	d := field(t)
	for _, value := range []string{"", "Box", " box", "box ", "box box", "bo", "boxx"} {
		checkMemo(t, with(t, d, 1, "for", value), 3, "", "", 0, 3)
	}
	checkMemo(t, grow(t, d, cleared(1, "for")), 3, "", "", 0, 3)
	checkMemo(t, grow(t, d, cleared(3, "id")), 3, "", "", 0, 3)
	checkMemo(t, grow(t, d, id(3, ""), attr(1, "for", "")), 3, "", "", 0, 3)
	checkMemo(t, grow(t, d, id(3, ""), cleared(1, "for")), 3, "", "", 0, 3)
	checkMemo(t, grow(t, d, id(3, " a b"), attr(1, "for", " a b")), 3, "Name", "", 0, 1, 2, 3)
	d = build(t, element(0, "p"), text(1, "Name"), element(0, "input"), attr(1, "for", "box"), id(3, "box"))
	checkMemo(t, d, 3, "", "", 0, 3)
	d = build(t, element(0, "label"), text(1, "Name"), element(0, "button"), attr(1, "for", "box"), id(3, "box"))
	checkMemo(t, d, 3, "", "", 0, 3)
}

func TestALabelIsOfTheOneThatFindTells(t *testing.T) {
	d := grow(t, field(t), element(0, "input"), id(4, "box"))
	checkMemo(t, d, 3, "Name", "", 0, 1, 2, 3)
	checkMemo(t, d, 4, "", "", 0, 4)
	d = grow(t, d, moved(4, 0, 1))
	checkMemo(t, d, 3, "", "", 0, 3)
	checkMemo(t, d, 4, "Name", "", 0, 1, 2, 4)
	checkMemo(t, grow(t, d, id(1, "box"), moved(1, 0, 4)), 4, "", "", 0, 4)
}

func TestLabelsAreOfOneScope(t *testing.T) {
	d := build(t, element(0, "x-host"), shadow(1), elementS(1, "label"), text(2, "shadow"), elementS(1, "input"), id(4, "x"), attr(2, "for", "x"),
		element(0, "label"), text(5, "light"), element(0, "input"), id(7, "x"), attr(5, "for", "x"))
	checkMemo(t, d, 4, "shadow", "", 0, 1, 2, 3, 4)
	checkMemo(t, d, 7, "light", "", 0, 5, 6, 7)
	checkMemo(t, grow(t, d, cleared(2, "for")), 4, "", "", 0, 1, 4)
	checkMemo(t, grow(t, d, cleared(5, "for")), 7, "", "", 0, 7)
}

func TestTheFirstLabelThatWasNotAsked(t *testing.T) {
	d := grow(t, field(t), element(0, "label"), text(4, "Other"), attr(4, "for", "box"), id(1, "one"), id(4, "other"))
	checkMemo(t, d, 3, "Name", "", 0, 1, 2, 3)
	checkMemo(t, grow(t, d, moved(4, 0, 1)), 3, "Other", "", 0, 3, 4, 5)
	checkMemo(t, grow(t, d, removed(2)), 3, "", "", 0, 1, 3) // the first one alone, whatever comes of it
	// 1 was asked first, and said nothing
	checkMemo(t, grow(t, d, removed(2), labelledby(3, "one")), 3, "Other", "", 0, 1, 3, 4, 5)
	checkMemo(t, grow(t, d, removed(2), labelledby(3, "other")), 3, "Other", "", 0, 3, 4, 5)
}

func TestAnInputWithinItsLabel(t *testing.T) {
	d := grow(t, field(t), attr(3, "type", "checkbox"), moved(3, 1, -1), text(1, "yes"), attr(3, "title", "t"))
	checkMemo(t, d, 3, "Name yes", "t", 0, 1, 2, 3, 4)
	d = grow(t, d, element(0, "nav"), labelledby(5, "l"), id(1, "l"))
	checkMemo(t, d, 5, "Name t yes", "", 0, 1, 2, 3, 4, 5) // the label was asked already
	d = grow(t, d, attr(3, "type", "text"), attr(3, "value", "v"))
	checkMemo(t, d, 5, "Name v yes", "", 0, 1, 2, 3, 4, 5)
}

// TestALabelForAnotherOnesName: an input that is asked for another one's name asks its label.
func TestALabelForAnotherOnesName(t *testing.T) {
	d := grow(t, field(t), attr(3, "type", "checkbox"), element(0, "nav"), labelledby(4, "box"))
	checkMemo(t, d, 4, "Name", "", 0, 1, 2, 3, 4)
	checkMemo(t, grow(t, d, attr(3, "type", "text")), 4, "", "", 0, 3, 4) // a textbox is asked for its value alone
	d = build(t, element(0, "label"), text(1, "Name"), element(0, "button"), element(3, "input"), attr(1, "for", "box"), id(4, "box"), attr(4, "type", "checkbox"))
	checkMemo(t, d, 3, "Name", "", 0, 1, 2, 3, 4)
	checkMemo(t, grow(t, d, hidden(1)), 3, "", "", 0, 1, 3, 4)
}

// TestALabelIsNotListedWithItsInput: it is not in it.
func TestALabelIsNotListedWithItsInput(t *testing.T) {
	d := grow(t, field(t), attr(3, "type", "checkbox"), element(0, "nav"), labelledby(4, "box"), describedby(4, "box"))
	checkMemo(t, d, 4, "Name", "Name", 0, 1, 2, 3, 4)
	for _, name := range []string{"hidden", "aria-hidden"} {
		e := with(t, d, 1, name, "true")
		checkMemo(t, e, 4, "", "", 0, 1, 3, 4)
		checkMemo(t, with(t, e, 4, "aria-label", "l"), 4, "l", "", 0, 1, 3, 4) // neither for its name nor for its About
		checkMemo(t, with(t, e, 3, "title", "t"), 4, "t", "t", 0, 1, 3, 4)
		checkMemo(t, with(t, e, 3, name, "true"), 4, "", "", 0, 1, 3, 4)
		checkMemo(t, with(t, d, 3, name, "true"), 4, "Name", "Name", 0, 1, 2, 3, 4)
	}
	// what is hidden in a label that is not
	e := grow(t, d, element(1, "b"), text(5, "not"), hidden(5))
	checkMemo(t, e, 4, "Name", "Name", 0, 1, 2, 3, 4, 5)
	checkMemo(t, grow(t, e, moved(2, 5, -1)), 4, "", "", 0, 1, 3, 4, 5)
	// what is in the input was listed, its label was not
	e = grow(t, d, hidden(1), element(3, "b"), text(5, "in it"), hidden(5))
	checkMemo(t, e, 4, "in it", "in it", 0, 1, 3, 4, 5, 6)
	// a label of an input in a div that was listed, but that one is not in it
	e = grow(t, d, hidden(1), element(0, "div"), moved(3, 5, -1), id(5, "x"), labelledby(4, "x"), describedby(4, "x"))
	checkMemo(t, e, 4, "", "", 0, 1, 3, 4, 5)
}

// TestAHiddenLabelThatIsListed: by itself, or with what it is in; not by one whose turn comes after it was asked.
func TestAHiddenLabelThatIsListed(t *testing.T) {
	d := grow(t, field(t), attr(3, "type", "checkbox"), hidden(1), id(1, "l"), element(0, "nav"))
	checkMemo(t, grow(t, d, labelledby(4, "l")), 4, "Name", "", 0, 1, 2, 4)
	checkMemo(t, grow(t, d, labelledby(4, "l box")), 4, "Name", "", 0, 1, 2, 3, 4)
	checkMemo(t, grow(t, d, labelledby(4, "box l")), 4, "", "", 0, 1, 3, 4)
	checkMemo(t, grow(t, d, attr(4, "aria-label", "a"), describedby(4, "l")), 4, "a", "Name", 0, 1, 2, 4)
	// 5 has both: the label was listed with it, whether the input asks it or 5
	d = grow(t, d, element(0, "div"), moved(3, 5, -1), moved(1, 5, -1), id(5, "x"), labelledby(4, "x"))
	checkMemo(t, d, 4, "Name", "", 0, 1, 2, 3, 4, 5)
	checkMemo(t, grow(t, d, moved(1, 5, 3)), 4, "Name", "", 0, 1, 2, 3, 4, 5)
	checkMemo(t, grow(t, d, element(5, "div"), moved(1, 6, -1)), 4, "Name", "", 0, 1, 2, 3, 4, 5, 6)
	// one that 5 owns is in it, one that another one owns is not
	checkMemo(t, grow(t, d, moved(1, 0, -1), attr(5, "aria-owns", "l")), 4, "Name", "", 0, 1, 2, 3, 4, 5)
	checkMemo(t, grow(t, d, element(0, "p"), attr(6, "aria-owns", "l")), 4, "", "", 0, 1, 3, 4, 5)
	// a label in its input was listed with it
	d = grow(t, field(t), attr(3, "type", "checkbox"), hidden(1), moved(1, 3, -1), element(0, "nav"), labelledby(4, "box"))
	checkMemo(t, d, 4, "Name", "", 0, 1, 2, 3, 4)
}

func TestNamesOfWhatIsInItComeInTurn(t *testing.T) {
	d := build(t, element(0, "h2"), text(1, "a "), element(1, "b"), text(3, " b"), element(3, "i"), text(5, "c\n"), text(1, ""), text(1, "d"))
	checkMemo(t, d, 1, "a b c d", "", 0, 1, 2, 3, 4, 5, 6, 7, 8)
	checkMemo(t, d, 3, "", "", 0, 1, 3)
	d = build(t, element(0, "button"), text(1, "a"), text(1, "b"))
	checkName(t, d, 1, "a b") // with a blank between
}

func TestWhatIsOwnedIsInIt(t *testing.T) {
	d := build(t, element(0, "button"), text(1, "a"), element(0, "p"), text(3, "b"), id(3, "x"), attr(1, "aria-owns", "x"))
	checkMemo(t, d, 1, "a b", "", 0, 1, 2, 3, 4)
	if got := Of(d, nil, 1).Name; got != "a" {
		t.Errorf("Name = %q, though nothing is claimed", got)
	}
	// what another one owns is no longer in it
	d = build(t, element(0, "div"), element(0, "button"), text(2, "a"), element(2, "b"), text(4, "b"), id(4, "x"), attr(1, "aria-owns", "x"))
	checkMemo(t, d, 2, "a", "", 0, 2, 3)
}

// TestUsesGoByWhatIsShown: not by who owns it; and what is owned is hidden where it is shown.
func TestUsesGoByWhatIsShown(t *testing.T) {
	d := build(t, element(0, "button"), element(0, "ul"), element(2, "p"), text(3, "b"), id(3, "x"), attr(1, "aria-owns", "x"))
	checkMemo(t, d, 1, "b", "", 0, 1, 2, 3, 4)
	checkMemo(t, d, 3, "", "", 0, 2, 3)
	checkMemo(t, grow(t, d, hidden(2)), 1, "", "", 0, 1, 2, 3)
	checkMemo(t, grow(t, d, hidden(1)), 4, "b", "", 0, 2, 3, 4)
}

func TestAskedAheadOfItsTurn(t *testing.T) {
	// 2, an input in the button, asks its label, 3, that is in the button too: it is not asked again
	d := build(t, element(0, "button"), element(1, "input"), element(1, "label"), text(3, "a"), text(1, "z"), id(2, "x"), attr(3, "for", "x"), attr(2, "type", "checkbox"))
	checkMemo(t, d, 1, "a z", "", 0, 1, 2, 3, 4, 5)
	d = grow(t, d, moved(3, 1, 2), attr(2, "title", "t"))
	checkMemo(t, d, 1, "a t z", "", 0, 1, 2, 3, 4, 5)
}

func TestShadowTreesAndSlots(t *testing.T) {
	d := build(t, element(0, "button"), shadow(1), textS(1, "a"), elementS(1, "slot"), textS(1, "c"), text(1, "b"), text(3, "instead"))
	checkMemo(t, d, 1, "a b c", "", 0, 1, 2, 3, 4, 5)
	checkMemo(t, d, 5, "b", "", 0, 1, 3, 5)
	checkMemo(t, d, 6, "", "", 6)
	d = grow(t, d, removed(5))
	checkMemo(t, d, 1, "a instead c", "", 0, 1, 2, 3, 4, 6)
	d = grow(t, d, attr(3, "name", "s"), element(1, "i"), text(5, "lost"))
	checkMemo(t, d, 1, "a instead c", "", 0, 1, 2, 3, 4, 6)
}

func TestAbout(t *testing.T) {
	d := one(t, "button", "title", "t", "aria-describedby", "x")
	checkMemo(t, d, 1, "in it", "beside", 0, 1, 2, 3, 4)
	checkMemo(t, grow(t, d, removed(4)), 1, "in it", "t", 0, 1, 2, 3)
	checkMemo(t, grow(t, d, cleared(1, "title"), removed(4)), 1, "in it", "", 0, 1, 2, 3)
	checkMemo(t, grow(t, d, attr(1, "title", " in  it "), removed(4)), 1, "in it", "", 0, 1, 2, 3)
	checkMemo(t, grow(t, d, attr(1, "title", "In it"), removed(4)), 1, "in it", "In it", 0, 1, 2, 3)
	checkMemo(t, grow(t, d, removed(2)), 1, "t", "beside", 0, 1, 3, 4)
	checkMemo(t, grow(t, d, removed(2), cleared(1, "aria-describedby")), 1, "t", "", 0, 1)
}

// TestAboutMayBeTheName: only a title is held against it.
func TestAboutMayBeTheName(t *testing.T) {
	d := one(t, "button", "aria-labelledby", "x", "aria-describedby", "x")
	checkMemo(t, d, 1, "beside", "beside", 0, 1, 3, 4) // who was asked for the name is asked again
}

func TestAboutAsksForAnotherOnesName(t *testing.T) {
	d := grow(t, words123(t), attr(7, "aria-label", "l"), describedby(7, "a b"), labelledby(1, "c"), describedby(1, "c"), hidden(3))
	checkMemo(t, d, 7, "l", "one two", 0, 1, 2, 3, 4, 7)
	d = grow(t, field(t), attr(3, "value", "v"), element(0, "nav"), attr(4, "aria-label", "l"), describedby(4, "box"))
	checkMemo(t, d, 4, "l", "v", 0, 3, 4)
	// 1 is asked already, though it stands in what is listed
	d = build(t, element(0, "p"), text(1, "a"), element(1, "button"), text(3, "b"), text(1, "c"), id(1, "x"), describedby(3, "x"))
	checkMemo(t, d, 3, "b", "a c", 0, 1, 2, 3, 4, 5)
}

// TestWithoutANameThereIsNoAbout: and who is listed is not asked then.
func TestWithoutANameThereIsNoAbout(t *testing.T) {
	for _, more := range [][]string{{"aria-describedby", "x"}, {"title", "t"}, {"aria-describedby", "x", "title", "t"}} {
		for _, name := range []string{"hidden", "aria-hidden"} {
			d := with(t, one(t, "button", more...), 1, name, "true")
			checkMemo(t, d, 1, "", "", 0, 1)
			checkMemo(t, with(t, d, 1, "aria-label", "l"), 1, "", "", 0, 1)
		}
	}
	for _, tag := range []string{"nav", "ul", "table", "dialog", "input", "img"} { // no role of these has Content
		d := one(t, tag, "aria-describedby", "x")
		checkMemo(t, d, 1, "", "", 0, 1)
		checkMemo(t, with(t, d, 1, "title", " \t"), 1, "", "", 0, 1)
		checkMemo(t, with(t, d, 1, "title", "t"), 1, "t", "beside", 0, 1, 3, 4)
		checkMemo(t, with(t, d, 1, "aria-label", "l"), 1, "l", "beside", 0, 1, 3, 4)
	}
	checkMemo(t, one(t, "div", "aria-describedby", "x", "title", "t"), 1, "", "", 0, 1) // its role is not Named
}

// TestWhoWasAskedInVain: of one that has no name those that were asked for it are used.
func TestWhoWasAskedInVain(t *testing.T) {
	d := build(t, element(0, "button"), element(1, "b"), element(0, "p"), element(0, "p"), text(4, "that"), id(3, "no"), id(4, "x"), labelledby(1, "no"), describedby(1, "x"))
	checkMemo(t, d, 1, "", "", 0, 1, 2, 3)
	checkMemo(t, with(t, d, 2, "aria-label", "b"), 1, "b", "that", 0, 1, 2, 3, 4, 5)
}

func TestATextHasNoAbout(t *testing.T) {
	d := one(t, "button", "aria-describedby", "x", "title", "t")
	checkMemo(t, d, 2, "in it", "", 0, 1, 2)
	checkMemo(t, d, 4, "beside", "", 0, 3, 4)
}

func TestTheRoot(t *testing.T) {
	d := with(t, one(t, "button"), 0, "aria-labelledby", "x", "aria-describedby", "x", "title", "t")
	checkMemo(t, d, 0, "beside", "beside", 0, 3, 4)
	d = grow(t, d, attr(0, "role", "none"), cleared(0, "aria-labelledby"))
	checkMemo(t, d, 0, "", "", 0)
	checkMemo(t, with(t, d, 0, "role", "heading"), 0, "in it beside", "beside", 0, 1, 2, 3, 4)
	checkMemo(t, with(t, d, 0, "role", "heading", "hidden", ""), 0, "", "", 0)
	d = build(t, element(0, "nav"), text(0, "a"), id(0, "r"), labelledby(1, "r"))
	checkMemo(t, d, 1, "a", "", 0, 1, 2)
}

func TestManyThatListOneAnother(t *testing.T) {
	d := dom.New()
	many := strings.TrimSpace(strings.Repeat("a b ", api.MaxText/4))
	for n := 1; n < api.MaxNodes; n++ {
		d = grow(t, d, element((n-1)/api.MaxKids, []string{"input", "label", "button"}[n%3]), labelledby(n, many), describedby(n, many), attr(n, "for", "a"), attr(n, "aria-owns", many),
			id(n, []string{"a", "b", "c", "d"}[n%4]))
	}
	d = grow(t, d, labelledby(0, many), id(0, "a"))
	for n := range d {
		if got := of(d, n); got.Name != "" || !slices.Contains(got.Uses, n) {
			t.Errorf("Of(%d) = %+v", n, got)
		}
	}
}

// hand reckons a name by a list of all that it may come of, each one a function that is called when it is its turn.
type hand struct {
	d             api.Doc
	claims        []api.Claim
	asked, listed []int
}

// isListed looks at all that n is in.
func (h *hand) isListed(n int) bool {
	for ; n >= 0; n = owns.Up(h.d, h.claims, n) {
		if slices.Contains(h.listed, n) {
			return true
		}
	}
	return false
}

func (h *hand) join(l []int, listed bool) string {
	out := ""
	for _, k := range l {
		if k < 0 || slices.Contains(h.asked, k) {
			continue
		}
		if listed {
			h.listed = append(h.listed, k)
		}
		out += " " + h.name(k, false)
	}
	return strings.Join(strings.Fields(out), " ")
}

func (h *hand) list(n int, attr string) string {
	value, _ := dom.Attr(h.d, n, attr)
	var l []int
	for _, token := range strings.Fields(value) {
		l = append(l, dom.Find(h.d, n, token))
	}
	return h.join(l, true)
}

func (h *hand) label(n int) []int {
	want, _ := dom.Attr(h.d, n, "id")
	if want == "" || dom.Find(h.d, n, want) != n {
		return nil
	}
	for _, k := range dom.All(h.d, 0) {
		value, _ := dom.Attr(h.d, k, "for")
		if h.d[k].Tag == "label" && value == want && dom.Scope(h.d, k) == dom.Scope(h.d, n) && !slices.Contains(h.asked, k) {
			return []int{k}
		}
	}
	return nil
}

func (h *hand) name(n int, own bool) string {
	h.asked = append(h.asked, n)
	if role.Hidden(h.d, n) && !h.isListed(n) {
		return ""
	}
	tag, is := h.d[n].Tag, role.Of(h.d, n)
	if tag == "" {
		return strings.Join(strings.Fields(h.d[n].Text), " ")
	}
	said := func(attr string) func() string { return func() string { return role.Said(h.d, n, attr) } }
	box := !own && is == api.RoleBox
	for _, way := range []struct {
		may bool
		ask func() string
	}{
		{own, func() string { return h.list(n, "aria-labelledby") }},
		{true, said("aria-label")},
		{box, said("value")},
		{!box && tag == "img", said("alt")},
		{!box && tag == "input", func() string { return h.join(h.label(n), false) }},
		{!box && (!own || kinds.Of(is).Content), func() string { return h.join(owns.Kids(h.d, h.claims, n), false) }},
		{!box, said("title")},
	} {
		if way.may {
			if got := way.ask(); got != "" {
				return got
			}
		}
	}
	return ""
}

func byHand(d api.Doc, n int) api.Memo {
	memo := api.Memo{Node: n}
	if !dom.Is(d, n, false) {
		return memo
	}
	h := &hand{d: d, claims: owns.Claims(d), asked: []int{n}}
	all := []int{n}
	named := kinds.Of(role.Of(d, n)).Named
	if named || d[n].Tag == "" {
		memo.Name = h.name(n, true)
		all = append(all, h.asked...)
	}
	if named && memo.Name != "" {
		h.asked, h.listed = []int{n}, nil
		memo.About = h.list(n, "aria-describedby")
		if title := role.Said(d, n, "title"); memo.About == "" && title != memo.Name {
			memo.About = title
		}
		all = append(all, h.asked...)
	}
	for _, k := range all {
		for ; k >= 0; k = flat.Up(d, k) {
			memo.Uses = append(memo.Uses, k)
		}
	}
	slices.Sort(memo.Uses)
	memo.Uses = slices.Compact(memo.Uses)
	return memo
}

func TestNamesOfManyDocuments(t *testing.T) {
	next := rule(1)
	names, abouts, most := 0, 0, 0
	for range 1600 {
		d := grown(next)
		for n := range d {
			want := byHand(d, n)
			checkMemo(t, d, n, want.Name, want.About, want.Uses...)
			if want.Name != "" {
				names++
			}
			if want.About != "" {
				abouts++
			}
			most = max(most, len(want.Uses))
		}
	}
	if names < 1000 || abouts < 100 || most < 20 {
		t.Errorf("there are only %d names and %d abouts, with at most %d uses", names, abouts, most)
	}
}

func TestNamesArePlain(t *testing.T) {
	next := rule(2)
	for range 200 {
		d := grown(next)
		for n := range d {
			got := of(d, n)
			if got.Name != words.Squeeze(got.Name) || got.About != words.Squeeze(got.About) {
				t.Errorf("Of(%d) = %+v is not squeezed", n, got)
			}
			for i, k := range got.Uses {
				if !dom.Is(d, k, false) || i > 0 && got.Uses[i-1] >= k {
					t.Errorf("Uses of %d = %v", n, got.Uses)
				}
			}
		}
	}
}

// TestWhoWasNotAskedDoesNotMatter: a node that says otherwise changes only what it was used for.
func TestWhoWasNotAskedDoesNotMatter(t *testing.T) {
	next := rule(3)
	otherwise := 0
	for range 150 {
		d := grown(next)
		for range 10 {
			changed := next(len(d))
			name, value := somePlain(next)
			x := attr(changed, name, value)
			if d[changed].Tag == "" {
				x = api.Change{Kind: api.ChgSay, Node: changed, Value: "other"}
			}
			e, _, err := dom.Apply(d, x)
			if err != api.OK {
				continue
			}
			for n := range d {
				was, is := of(d, n), of(e, n)
				if sameMemo(was, is) {
					continue
				}
				otherwise++
				if !slices.Contains(was.Uses, changed) {
					t.Errorf("%+v changes Of(%d) from %+v to %+v", x, n, was, is)
				}
			}
		}
	}
	if otherwise < 300 {
		t.Errorf("only %d are otherwise", otherwise)
	}
}

func TestWhatIsHandedInIsOnlyRead(t *testing.T) {
	next := rule(4)
	for range 30 {
		d := grown(next)
		l := owns.Claims(d)
		given, claims := roomy(d), roomyClaims(d, l)
		was, wasClaims := whole(given), slices.Clone(claims[:len(l)+len(d)])
		for n := -1; n < len(d)+2; n++ {
			want := Of(d, l, n)
			for range 2 { // twice as once
				got := Of(given, claims, n)
				if !sameMemo(got, want) {
					t.Errorf("Of(%d) = %+v, not %+v, with room behind lists", n, got, want)
				}
				uses := got.Uses[:cap(got.Uses)]
				for i := range uses {
					uses[i] = 99
				}
			}
		}
		if !same(whole(given), was) || !slices.Equal(claims[:len(l)+len(d)], wasClaims) {
			t.Errorf("what was handed in is changed")
		}
	}
}
