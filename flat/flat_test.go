package flat

import (
	"math"
	"slices"
	"testing"

	"townreader/api"
	"townreader/dom"
)

// strange: numbers that no node of page has; 18 is within it, but not Live.
var strange = []int{math.MinInt, -8, -2, -1, 18, 24, 25, 60, math.MaxInt}

func checkSlot(t *testing.T, d api.Doc, n, want int) {
	t.Helper()
	if got := Slot(d, n); got != want {
		t.Errorf("Slot(%d) = %d, not %d", n, got, want)
	}
}

func checkUp(t *testing.T, d api.Doc, n, want int) {
	t.Helper()
	if got := Up(d, n); got != want {
		t.Errorf("Up(%d) = %d, not %d", n, got, want)
	}
}

func checkGiven(t *testing.T, d api.Doc, n int, want ...int) {
	t.Helper()
	if got := Given(d, n); !slices.Equal(got, want) {
		t.Errorf("Given(%d) = %v, not %v", n, got, want)
	}
}

func checkKids(t *testing.T, d api.Doc, n int, want ...int) {
	t.Helper()
	if got := Kids(d, n); !slices.Equal(got, want) {
		t.Errorf("Kids(%d) = %v, not %v", n, got, want)
	}
}

func checkShown(t *testing.T, d api.Doc, want ...int) {
	t.Helper()
	if got := Shown(d); !slices.Equal(got, want) {
		t.Errorf("Shown = %v, not %v", got, want)
	}
}

func TestSlot(t *testing.T) {
	d := page(t)
	slots := map[int]int{2: 9, 3: 14, 5: 14, 6: 14, 7: 9, 14: 12}
	for n := range d {
		want, has := slots[n]
		if !has {
			want = -1
		}
		checkSlot(t, d, n, want)
	}
}

func TestGiven(t *testing.T) {
	d := page(t)
	given := map[int][]int{9: {2, 7}, 12: {14}, 14: {3, 5, 6}}
	for n := range d {
		checkGiven(t, d, n, given[n]...)
	}
}

func TestKids(t *testing.T) {
	d := page(t)
	kids := map[int][]int{0: {1, 19, 21}, 1: {8}, 8: {9, 11, 16}, 9: {2, 7}, 11: {12, 13}, 12: {14}, 14: {3, 5, 6}, 16: {17}, 19: {20}, 22: {23}}
	for n := range d {
		checkKids(t, d, n, kids[n]...)
	}
}

func TestUp(t *testing.T) {
	d := page(t)
	for n, want := range []int{-1, 0, 9, 14, -1, 14, 14, 9, 1, 8, -1, 8, 11, 11, 12, -1, 8, 16, -1, 0, 19, 0, -1, 22} {
		checkUp(t, d, n, want)
	}
}

func TestShown(t *testing.T) {
	checkShown(t, page(t), 0, 1, 8, 9, 2, 7, 11, 12, 14, 3, 5, 6, 13, 16, 17, 19, 20, 21)
}

func TestNumbersThatAreNoNodes(t *testing.T) {
	d := page(t)
	for _, n := range strange {
		checkSlot(t, d, n, -1)
		checkGiven(t, d, n)
		checkKids(t, d, n)
		checkUp(t, d, n, -1)
	}
}

func TestTheRootAlone(t *testing.T) {
	d := dom.New()
	checkSlot(t, d, 0, -1)
	checkGiven(t, d, 0)
	checkKids(t, d, 0)
	checkUp(t, d, 0, -1)
	checkShown(t, d, 0)
}

func TestNothingIsShownOfNothing(t *testing.T) {
	for _, d := range []api.Doc{nil, {}} {
		for n := -1; n < 2; n++ {
			checkSlot(t, d, n, -1)
			checkGiven(t, d, n)
			checkKids(t, d, n)
			checkUp(t, d, n, -1)
		}
		checkShown(t, d)
	}
}

// host has node 1, with one slot, 2, in its shadow tree, and one node, 3.
func host(t *testing.T) api.Doc {
	t.Helper()
	return build(t, element(0, "x-host"), shadow(1), elementS(1, "slot"), element(1, "p"))
}

func TestNamesOfSlotsAreHeldByteByByte(t *testing.T) {
	d := host(t)
	for _, c := range []struct {
		name, slot string
		want       int
	}{
		{"", "", 2}, {"s", "s", 2}, {" s", " s", 2}, {"\xff", "\xff", 2},
		{"s", "", -1}, {"", "s", -1}, {"s", "S", -1}, {"S", "s", -1}, {"s", " s", -1}, {"s ", "s", -1}, {"s", "s t", -1}, {"s t", "s", -1}, {" ", "", -1}, {"", " ", -1},
	} {
		y := grow(t, d, attr(2, "name", c.name), attr(3, "slot", c.slot))
		checkSlot(t, y, 3, c.want)
	}
}

func TestWithoutAnAttributeItIsEmpty(t *testing.T) {
	d := host(t)
	checkSlot(t, d, 3, 2)
	checkSlot(t, grow(t, d, attr(2, "name", "")), 3, 2)
	checkSlot(t, grow(t, d, attr(3, "slot", "")), 3, 2)
	checkSlot(t, grow(t, d, attr(2, "name", "s")), 3, -1)
	d = grow(t, d, attr(3, "slot", "s"))
	checkSlot(t, d, 3, -1)
	checkSlot(t, grow(t, d, cleared(3, "slot")), 3, 2)
	checkSlot(t, grow(t, d, attr(2, "slot", "s")), 3, -1)
	checkSlot(t, grow(t, d, attr(3, "name", "s"), attr(2, "id", "s")), 3, -1)
}

func TestTextsGoToTheSlotWithoutAName(t *testing.T) {
	d := grow(t, host(t), text(1, "t"), text(1, ""))
	checkGiven(t, d, 2, 3, 4, 5)
	d = grow(t, d, attr(2, "name", "s"))
	checkGiven(t, d, 2)
	checkShown(t, d, 0, 1, 2)
}

func TestTheFirstSlotIsThatOfTheFirstPlace(t *testing.T) {
	d := grow(t, host(t), elementS(1, "div"), element(4, "slot"))
	checkSlot(t, d, 3, 2)
	d = grow(t, d, element(4, "div"), moved(2, 6, -1)) // now 2 stands behind 5
	checkSlot(t, d, 3, 5)
	checkGiven(t, d, 2)
	checkUp(t, d, 3, 5)
	checkSlot(t, grow(t, d, moved(5, 6, -1)), 3, 2)
	checkSlot(t, grow(t, d, removed(5)), 3, 2)
	checkSlot(t, grow(t, d, removed(4)), 3, -1)
}

func TestOnlySlotsAreSlots(t *testing.T) {
	d := build(t, element(0, "x-host"), shadow(1), elementS(1, "div"), elementS(1, "slots"), textS(1, "slot"), element(1, "p"), attr(2, "name", "s"), attr(5, "slot", "s"))
	checkSlot(t, d, 5, -1)
	checkUp(t, d, 5, -1)
	checkShown(t, d, 0, 1, 2, 3, 4)
}

func TestSlotsOfOtherScopesAreNotTaken(t *testing.T) {
	d := build(t,
		element(0, "x-host"), // 1
		shadow(1),
		element(1, "slot"),   // 2: in 1, but not in its shadow tree
		element(1, "x-host"), // 3
		shadow(3),
		elementS(3, "slot"),   // 4: of the scope 3
		elementS(1, "x-deep"), // 5
		shadow(5),
		elementS(5, "slot"), // 6: of the scope 5
		element(0, "slot"))  // 7: of no shadow tree
	for _, n := range []int{2, 3, 7} {
		checkSlot(t, d, n, -1)
	}
	for _, n := range []int{2, 4, 6, 7} {
		checkGiven(t, d, n)
	}
	checkShown(t, d, 0, 1, 5, 6, 7)
	d = grow(t, d, element(5, "slot")) // 8: of the scope 1, and shown in 6
	checkGiven(t, d, 8, 2, 3)
	checkGiven(t, d, 6, 8)
	checkShown(t, d, 0, 1, 5, 6, 8, 2, 3, 4, 7)
}

func TestWhatIsInAShadowTreeGoesToNoSlot(t *testing.T) {
	d := grow(t, host(t), elementS(1, "b"), textS(1, "t"), element(4, "i"), element(3, "u"))
	for _, n := range []int{0, 1, 2, 4, 5, 6, 7} { // 7 is in 3, which goes to one
		checkSlot(t, d, n, -1)
	}
	checkGiven(t, d, 2, 3)
	checkShown(t, d, 0, 1, 2, 3, 7, 4, 6, 5)
}

func TestGivenIsInTurn(t *testing.T) {
	d := grow(t, host(t), element(1, "a"), element(1, "b"), element(1, "i"), attr(5, "slot", "s"), moved(6, 1, 3))
	checkGiven(t, d, 2, 6, 3, 4)
	checkKids(t, d, 2, 6, 3, 4)
	checkGiven(t, grow(t, d, moved(3, 1, -1)), 2, 6, 4, 3)
	checkGiven(t, grow(t, d, cleared(5, "slot")), 2, 6, 3, 4, 5)
}

func TestAFullHostIsGivenWhole(t *testing.T) {
	d := host(t)
	want := []int{3}
	for n := 4; n < 3+api.MaxKids; n++ {
		d = grow(t, d, text(1, "t"))
		want = append(want, n)
	}
	checkGiven(t, d, 2, want...)
	checkShown(t, d, append([]int{0, 1, 2}, want...)...)
}

func TestWhatASlotHasIsShownWhereNothingIsGiven(t *testing.T) {
	d := grow(t, host(t), text(2, "fallback"))
	checkKids(t, d, 2, 3)
	checkUp(t, d, 4, -1)
	checkShown(t, d, 0, 1, 2, 3)
	d = grow(t, d, attr(3, "slot", "s"))
	checkKids(t, d, 2, 4)
	checkUp(t, d, 3, -1)
	checkUp(t, d, 4, 2)
	checkShown(t, d, 0, 1, 2, 4)
}

func TestASlotInASlot(t *testing.T) {
	d := grow(t, host(t), element(2, "slot"), attr(4, "name", "s"), text(4, "fallback"))
	checkShown(t, d, 0, 1, 2, 3) // 4 is only shown where nothing is given to 2
	d = grow(t, d, element(1, "b"), attr(6, "slot", "s"))
	checkSlot(t, d, 6, 4)
	checkUp(t, d, 6, 4)
	checkUp(t, d, 4, -1)
	checkShown(t, d, 0, 1, 2, 3)
	checkShown(t, grow(t, d, removed(3)), 0, 1, 2, 4, 6)
}

func TestAnEmptyShadowTreeShowsNothing(t *testing.T) {
	d := build(t, element(0, "x-host"), element(1, "p"), text(2, "t"))
	checkShown(t, d, 0, 1, 2, 3)
	d = grow(t, d, shadow(1))
	checkKids(t, d, 1)
	checkUp(t, d, 2, -1)
	checkUp(t, d, 3, 2)
	checkShown(t, d, 0, 1)
}

func TestASlotWithoutAShadowTreeIsLikeOthers(t *testing.T) {
	d := build(t, element(0, "slot"), text(1, "t"), element(0, "p"))
	checkSlot(t, d, 3, -1)
	checkGiven(t, d, 1)
	checkKids(t, d, 1, 2)
	checkUp(t, d, 2, 1)
	checkShown(t, d, 0, 1, 2, 3)
}

func TestAnswersAreTheCallers(t *testing.T) {
	d := page(t)
	given := roomy(d)
	was := whole(given)
	for n := range d {
		spoil(Given(given, n))
		spoil(Kids(given, n))
	}
	spoil(Shown(given))
	if !same(whole(given), was) {
		t.Errorf("what was handed in is changed")
	}
}

func TestTheRoomBehindListsIsNotLookedAt(t *testing.T) {
	d := page(t)
	given := roomy(d)
	checkShown(t, given, Shown(d)...)
	for n := -1; n < len(d)+2; n++ {
		checkSlot(t, given, n, Slot(d, n))
		checkGiven(t, given, n, Given(d, n)...)
		checkKids(t, given, n, Kids(d, n)...)
		checkUp(t, given, n, Up(d, n))
	}
}

// slotByHand goes through the shadow tree of what n is in, and leaves out those within it.
func slotByHand(d api.Doc, n int) int {
	if n == 0 || !d[n].Live || d[n].InS || !d[d[n].Up].HasS {
		return -1
	}
	value := func(n int, name string) string {
		for _, a := range d[n].Attrs {
			if a.Name == name {
				return a.Value
			}
		}
		return ""
	}
	var first func(l []int) int
	first = func(l []int) int {
		for _, k := range l {
			if d[k].Tag == "slot" && value(k, "name") == value(n, "slot") {
				return k
			}
			if in := first(d[k].Kids); in >= 0 {
				return in
			}
		}
		return -1
	}
	return first(d[d[n].Up].Shadow)
}

func TestSlotsOfManyDocuments(t *testing.T) {
	next := rule(1)
	slotted := 0
	for range 500 {
		d := grown(next, true)
		given := make([][]int, len(d))
		for _, n := range dom.All(d, 0) {
			want := slotByHand(d, n)
			checkSlot(t, d, n, want)
			if want >= 0 {
				slotted++
				given[want] = append(given[want], n)
			}
		}
		for slot, l := range given {
			checkGiven(t, d, slot, l...)
		}
	}
	if slotted < 500 {
		t.Errorf("only %d nodes go to slots", slotted)
	}
}

func TestUpAndKidsOfManyDocuments(t *testing.T) {
	next := rule(2)
	for range 300 {
		d := grown(next, true)
		ups := make([]int, len(d))
		for n := range ups {
			ups[n] = -1
		}
		for up := range d {
			for _, n := range Kids(d, up) {
				if ups[n] >= 0 {
					t.Errorf("%d is in %d and in %d", n, ups[n], up)
				}
				ups[n] = up
			}
		}
		for n, up := range ups {
			checkUp(t, d, n, up)
		}
	}
}

func TestShownOnce(t *testing.T) {
	next := rule(3)
	left := 0
	for range 300 {
		d := grown(next, true)
		shown := Shown(d)
		for n := range d {
			top := n
			for Up(d, top) >= 0 {
				top = Up(d, top)
			}
			want := 0
			if top == 0 {
				want = 1
			}
			times := 0
			for at, k := range shown {
				if k == n {
					times++
				}
				if k == n && n != 0 && !slices.Contains(shown[:at], Up(d, n)) {
					t.Errorf("%d is shown ahead of what it is in", n)
				}
			}
			if times != want {
				t.Errorf("%d is shown %d times, not %d", n, times, want)
			}
			left += 1 - want
		}
	}
	if left < 300 {
		t.Errorf("only %d nodes are not shown", left)
	}
}

func TestWithoutShadowsItIsAsItStands(t *testing.T) {
	next := rule(4)
	for range 100 {
		d := grown(next, false)
		checkShown(t, d, dom.All(d, 0)...)
		for n := range d {
			checkSlot(t, d, n, -1)
			checkGiven(t, d, n)
			checkKids(t, d, n, d[n].Kids...)
			if d[n].Live {
				checkUp(t, d, n, d[n].Up)
			}
		}
	}
}

func TestTwiceAsOnce(t *testing.T) {
	d := page(t)
	checkShown(t, d, Shown(d)...)
	for n := range d {
		checkSlot(t, d, n, Slot(d, n))
		checkGiven(t, d, n, Given(d, n)...)
		checkKids(t, d, n, Kids(d, n)...)
		checkUp(t, d, n, Up(d, n))
	}
}
