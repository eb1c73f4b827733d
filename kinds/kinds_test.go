package kinds

import (
	"math"
	"slices"
	"strings"
	"testing"

	"townreader/api"
)

// names, from RoleGroup on.
var names = strings.Fields("group main navigation heading list listitem link button checkbox text img textbox table row cell region dialog generic")

// strange: what is no role.
var strange = []int{math.MinInt, -256, -19, -2, -1, 19, 20, 256, 1 << 32, math.MaxInt}

func checkFind(t *testing.T, name string, want int) {
	t.Helper()
	if got := Find(name); got != want {
		t.Errorf("Find(%q) = %d, not %d", name, got, want)
	}
}

func checkTag(t *testing.T, tag string, want int) {
	t.Helper()
	if got := Tag(tag); got != want {
		t.Errorf("Tag(%q) = %d, not %d", tag, got, want)
	}
}

// near: texts that are like s, but not s, byte by byte.
func near(s string) []string {
	return []string{strings.ToUpper(s), strings.ToUpper(s[:1]) + s[1:], " " + s, s + " ", s + "\n", s + "s", "x" + s, s + "\x00", s + "\xff", s + " " + s}
}

func TestNames(t *testing.T) {
	if len(names) != api.RoleCount-api.RoleGroup {
		t.Fatalf("%d names", len(names))
	}
	for i, name := range names {
		if got := Of(api.RoleGroup + i).Name; got != name {
			t.Errorf("role %d is called %q, not %q", api.RoleGroup+i, got, name)
		}
	}
}

func TestWhatRolesAre(t *testing.T) {
	for _, c := range []struct {
		what string
		has  func(k api.Kind) bool
		want []int
	}{
		{"Content", func(k api.Kind) bool { return k.Content }, []int{api.RoleHeading, api.RoleLink, api.RoleButton, api.RoleCheck, api.RoleRow, api.RoleCell}},
		{"Leaf", func(k api.Kind) bool { return k.Leaf }, []int{api.RoleButton, api.RoleCheck, api.RoleText, api.RoleImage, api.RoleBox}},
		{"Level", func(k api.Kind) bool { return k.Level }, []int{api.RoleHeading, api.RoleItem}},
		{"Checked", func(k api.Kind) bool { return k.Checked }, []int{api.RoleCheck}},
		{"not Named", func(k api.Kind) bool { return !k.Named }, []int{api.RoleNone, api.RoleItem, api.RoleText, api.RoleGeneric}},
	} {
		for role := range api.RoleCount {
			if got, want := c.has(Of(role)), slices.Contains(c.want, role); got != want {
				t.Errorf("%s of role %d: %v, not %v", c.what, role, got, want)
			}
		}
	}
}

func TestWhatRolesNeed(t *testing.T) {
	need := map[int]int{api.RoleItem: api.RoleList, api.RoleRow: api.RoleTable, api.RoleCell: api.RoleRow}
	for role := range api.RoleCount {
		if got := Of(role).Need; got != need[role] {
			t.Errorf("role %d needs %d, not %d", role, got, need[role])
		}
	}
}

func TestOfWhatIsNoRoleThereIsNothing(t *testing.T) {
	for _, role := range append([]int{api.RoleNone}, strange...) {
		if got := Of(role); got != (api.Kind{}) {
			t.Errorf("Of(%d) = %+v", role, got)
		}
	}
}

func TestFind(t *testing.T) {
	for i, name := range names {
		want := api.RoleGroup + i
		if name == "text" || name == "generic" {
			want = -1
		}
		checkFind(t, name, want)
	}
	checkFind(t, "none", api.RoleNone)
	checkFind(t, "presentation", api.RoleNone)
}

func TestFindTakesNamesAlone(t *testing.T) {
	for _, name := range append([]string{"none", "presentation"}, names...) {
		for _, s := range near(name) {
			checkFind(t, s, -1)
		}
	}
	for _, s := range []string{"", " ", "\x00", "\xff", "0", "8", "-1", "zz", "nav", "h1", "ul", "li", "tr", "td", "image", "check", "box", "item", "ｂutton", strings.Repeat("button", 10000)} {
		checkFind(t, s, -1)
	}
}

func TestTag(t *testing.T) {
	tags := map[string]int{
		"main": api.RoleMain, "nav": api.RoleNav,
		"h1": api.RoleHeading, "h2": api.RoleHeading, "h3": api.RoleHeading,
		"ul": api.RoleList, "li": api.RoleItem, "button": api.RoleButton,
		"table": api.RoleTable, "tr": api.RoleRow, "td": api.RoleCell, "dialog": api.RoleDialog,
	}
	for tag, want := range tags {
		checkTag(t, tag, want)
		for _, s := range near(tag) {
			checkTag(t, s, api.RoleGeneric)
		}
	}
}

func TestOtherTagsAreGeneric(t *testing.T) {
	for _, tag := range []string{"", " ", "\xff", "div", "p", "a", "b", "img", "input", "section", "slot", "h", "h0", "h4", "h5", "h6", "h11", "ol", "th", "form", "label", "none", "presentation", "x-main", strings.Repeat("h", 60000)} {
		checkTag(t, tag, api.RoleGeneric)
	}
	for _, name := range names {
		if !slices.Contains([]string{"main", "button", "table", "dialog"}, name) {
			checkTag(t, name, api.RoleGeneric)
		}
	}
}

func TestTagsHaveRolesThatAre(t *testing.T) {
	for _, tag := range []string{"main", "nav", "h1", "ul", "li", "button", "table", "tr", "td", "dialog", "div"} {
		if Of(Tag(tag)).Name == "" {
			t.Errorf("%s has role %d, which is none", tag, Tag(tag))
		}
	}
}

func TestTwiceAsOnce(t *testing.T) {
	for range 20 { // a map is gone through in another turn each time
		for role := range api.RoleCount {
			k := Of(role)
			k.Name, k.Need = "spoilt", 99
		}
		TestNames(t)
		TestWhatRolesNeed(t)
		TestFind(t)
		TestTag(t)
	}
}
