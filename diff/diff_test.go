package diff

import (
	"strconv"
	"testing"

	"townreader/api"
	"townreader/dom"
	"townreader/tree"
)

func TestFirstAllIsTold(t *testing.T) {
	for _, none := range [][]api.Item{nil, {}} {
		checkOf(t, none, items(item(0, "")), allIs(item(0, "")))
		checkOf(t, none, town()[:1], allIs(town()[0]))
		checkOf(t, none, nil)
		checkOf(t, none, []api.Item{})
		checkOf(t, none, town(), // more than one are added one by one
			adding(item(0, ""), -1, 0), adding(item(1, "a"), 0, 0), adding(item(2, "b"), 0, 1), adding(item(3, "c"), 2, 0), adding(item(4, "d"), 0, 2), adding(item(5, "e"), -1, 1))
	}
}

func TestNothingOtherwiseIsNothingTold(t *testing.T) {
	next := rule(4)
	checkOf(t, town(), town())
	for range 300 {
		l := grown(next, 30)
		if len(l) > 0 {
			checkOf(t, l, l)
			checkOf(t, l, tree.Own(l))
		}
	}
}

func TestASmallChangeIsOneEvent(t *testing.T) {
	for _, e := range events(
		adding(item(9, "n"), 0, 0), adding(item(9, "n"), 0, 2), adding(item(9, "n"), 3, 0), adding(item(9, "n"), -1, 2),
		removing(1), removing(2), removing(3), removing(0), removing(5),
		moving(4, 0, 0), moving(4, 0, 1), moving(2, 0, 0), moving(4, 1, 0), moving(4, 2, 0), moving(4, 3, 0), moving(3, 0, 3), moving(5, -1, 0), moving(5, 2, 1),
		telling(item(2, "B")), telling(item(0, "x"))) {
		b, fault := Apply(town(), events(e))
		if fault != (api.Fault{}) {
			t.Fatalf("%s is refused: %v", shownEvents(events(e)), fault)
		}
		checkOf(t, town(), b, e)
	}
}

// TestAButtonAheadOfAnotherOne: of documents, as they are told.
func TestAButtonAheadOfAnotherOne(t *testing.T) {
	grow := func(d api.Doc, l ...api.Change) api.Doc {
		for _, x := range l {
			d, _, _ = dom.Apply(d, x)
		}
		return d
	}
	button := func(name string) api.Change {
		return api.Change{Kind: api.ChgMake, Node: 0, Before: -1, Name: name}
	}
	d := grow(dom.New(), button("button"), button("button"), button("button"))
	moved := grow(d, api.Change{Kind: api.ChgMove, Node: 3, To: 0, Before: 1})
	checkOf(t, tree.Build(d), tree.Build(moved), moving(3, 0, 0))
	added := grow(d, api.Change{Kind: api.ChgMake, Node: 0, Before: 2, Name: "button"})
	checkOf(t, tree.Build(d), tree.Build(added), adding(api.Item{Node: 4, Role: api.RoleButton}, 0, 1))
	said := grow(d, api.Change{Kind: api.ChgAttr, Node: 2, Name: "title", Value: "save"})
	checkOf(t, tree.Build(d), tree.Build(said), telling(api.Item{Node: 2, Role: api.RoleButton, Name: "save"}))
	gone := grow(d, api.Change{Kind: api.ChgAttr, Node: 2, Name: "hidden"})
	checkOf(t, tree.Build(d), tree.Build(gone), removing(2))
	checkOf(t, tree.Build(gone), tree.Build(grow(d, api.Change{Kind: api.ChgAttr, Node: 0, Name: "hidden"})), removing(0))
}

func TestWhatIsNotWantedGoesFirst(t *testing.T) {
	checkOf(t, town(), nil, removing(0), removing(5))
	checkOf(t, town(), []api.Item{}, removing(0), removing(5))
	checkOf(t, town(), items(item(0, "")), removing(1), removing(2), removing(4), removing(5)) // 3 goes with 2
	checkOf(t, town(), items(item(0, "", item(2, "b"))), removing(1), removing(3), removing(4), removing(5))
	checkOf(t, town(), items(item(5, "e")), removing(0))
	// 9 comes where 1 was, as if it had never been there
	checkOf(t, town(), items(item(0, "", item(9, "n"), item(2, "b", item(3, "c")), item(4, "d")), item(5, "e")),
		removing(1), adding(item(9, "n"), 0, 0))
	// none is in the other one
	checkOf(t, town(), items(item(9, "n")), removing(0), removing(5), adding(item(9, "n"), -1, 0))
	checkOf(t, town(), items(item(9, "n"), item(8, "m")), removing(0), removing(5), adding(item(9, "n"), -1, 0), adding(item(8, "m"), -1, 1))
}

func TestWhatHoldsSomethingWantedGoesLast(t *testing.T) {
	// 2 stays till 3 is out of it, and until then 4 is not where it belongs
	checkOf(t, town(), items(item(0, "", item(1, "a"), item(3, "c"), item(4, "d")), item(5, "e")), moving(3, 0, 1), moving(4, 0, 2), removing(2))
	checkOf(t, town(), items(item(0, "", item(1, "a"), item(4, "d"), item(3, "c")), item(5, "e")), moving(4, 0, 1), moving(3, 0, 2), removing(2))
	a := items(item(0, "", item(9, "", item(8, "", item(1, "a"), item(7, ""))), item(2, "b"), item(6, "")))
	checkOf(t, a, items(item(0, "", item(2, "b"), item(1, "a"))),
		removing(7), removing(6), moving(2, 0, 0), moving(1, 0, 1), removing(9)) // and 8 goes with 9
	// all in turn as they stand then, not as they stood
	a = items(item(1, "", item(8, "", item(5, ""))), item(2, "", item(9, "", item(6, ""))), item(7, "", item(3, "")))
	checkOf(t, a, items(item(3, ""), item(2, ""), item(1, ""), item(5, ""), item(6, "")),
		moving(3, -1, 0), moving(2, -1, 1), moving(5, -1, 3), moving(6, -1, 4), removing(9), removing(8), removing(7))
}

func TestItemsComeAndMoveInTurn(t *testing.T) {
	rootOf := func(l ...int) []api.Item {
		root := item(0, "")
		for _, n := range l {
			root.Kids = append(root.Kids, item(n, ""))
		}
		return items(root)
	}
	checkOf(t, rootOf(1, 2, 3), rootOf(3, 1, 2), moving(3, 0, 0))
	checkOf(t, rootOf(1, 2, 3), rootOf(2, 3, 1), moving(2, 0, 0), moving(3, 0, 1)) // one by one from the first place on
	checkOf(t, rootOf(1, 2, 3, 4, 5), rootOf(5, 4, 3, 2, 1), moving(5, 0, 0), moving(4, 0, 1), moving(3, 0, 2), moving(2, 0, 3))
	checkOf(t, rootOf(1, 2), rootOf(6, 2, 7, 1, 8), adding(item(6, ""), 0, 0), moving(2, 0, 1), adding(item(7, ""), 0, 2), adding(item(8, ""), 0, 4))
	// each ahead of what is in it: 4 comes to be in what comes
	checkOf(t, rootOf(1, 4), items(item(0, "", item(9, "n", item(4, ""), item(8, "m")), item(1, ""))),
		adding(item(9, "n"), 0, 0), moving(4, 9, 0), adding(item(8, "m"), 9, 1))
	// what is to go further down stands in the way of those behind it until then
	checkOf(t, rootOf(1, 2, 3), items(item(0, "", item(2, ""), item(3, "", item(1, "")))), moving(2, 0, 0), moving(3, 0, 1), moving(1, 3, 0))
	// what was around something is in it
	checkOf(t, items(item(0, "", item(1, "", item(2, "", item(3, ""))))), items(item(3, "", item(2, "", item(1, "", item(0, ""))))),
		moving(3, -1, 0), moving(2, 3, 0), moving(1, 2, 0), moving(0, 1, 0))
	checkOf(t, items(item(0, "")), items(item(9, "", item(0, ""))), adding(item(9, ""), -1, 0), moving(0, 9, 0))
	checkOf(t, items(item(9, "", item(0, ""))), items(item(0, "")), moving(0, -1, 0), removing(9))
	checkOf(t, items(item(1, ""), item(2, "")), items(item(2, ""), item(1, "")), moving(2, -1, 0))
	checkOf(t, items(item(1, ""), item(2, "")), items(item(2, "", item(1, ""))), moving(2, -1, 0), moving(1, 2, 0))
}

func TestWhatIsToldOtherwiseIsToldLast(t *testing.T) {
	it := api.Item{Node: 1, Role: api.RoleCheck, Name: "n", About: "a", Level: 1, Checked: 2}
	for i := range 6 {
		other := it
		switch i {
		case 0:
			other.Role = api.RoleButton
		case 1:
			other.Name = ""
		case 2:
			other.About = "n"
		case 3:
			other.Level = 2
		case 4:
			other.Checked = 1
		case 5:
			other.Off = true
		}
		checkOf(t, items(item(0, "", it)), items(item(0, "", other)), telling(other))
		checkOf(t, items(item(0, "", other)), items(item(0, "", it)), telling(it))
		outer := other
		outer.Kids = items(item(3, ""))
		it.Kids = items(item(2, ""), item(3, ""))
		checkOf(t, items(it), items(outer), removing(2), telling(other)) // its Kids are not told with it
		it.Kids = nil
	}
	checkOf(t, items(item(0, "", item(1, "a"), item(2, "b")), item(5, "e")), items(item(0, "x", item(3, "c", item(2, "B")), item(1, "A"))),
		removing(5), adding(item(3, "c"), 0, 0), moving(2, 3, 0), telling(item(0, "x")), telling(item(2, "B")), telling(item(1, "A")))
	checkOf(t, items(item(1, "a"), item(9, "", item(2, "b"))), items(item(2, "B"), item(1, "A")),
		moving(2, -1, 0), removing(9), telling(item(2, "B")), telling(item(1, "A")))
}

// row is a root with as many in it, from node 1 on.
func row(count int, name string) api.Item {
	root := item(0, "")
	for n := range count {
		root.Kids = append(root.Kids, item(n+1, name))
	}
	return root
}

func TestTooManyEventsAreToldAsAll(t *testing.T) {
	root := items(item(0, ""))
	for _, l := range []api.Item{row(api.MaxEvents-1, "n"), row(api.MaxEvents, "n")} {
		if got := Of(root, items(l)); len(got) != len(l.Kids) || got[0].Kind != api.EvAdd {
			t.Errorf("%d are added by %s", len(l.Kids), shownEvents(got))
		}
	}
	more := row(api.MaxEvents+1, "n")
	checkOf(t, root, items(more), allIs(more))
	checkOf(t, items(row(api.MaxEvents+1, "m")), items(more), allIs(more))
	// all kinds together are counted
	a := items(row(api.MaxEvents-1, "m"))
	b := items(row(api.MaxEvents-2, "n"))
	if got := Of(a, b); len(got) != api.MaxEvents-1 || got[0].Kind != api.EvRemove {
		t.Errorf("there are %d: %s", len(got), shownEvents(got))
	}
	b[0].Name = "r"
	if got := Of(a, b); len(got) != api.MaxEvents {
		t.Errorf("there are %d: %s", len(got), shownEvents(got))
	}
	b[0].Kids[0].Kids = items(item(99, ""))
	checkOf(t, a, b, allIs(b[0]))
	// of several, or none, there is no all
	pair := items(more, item(99, ""))
	if got := Of(root, pair); len(got) != api.MaxEvents+2 || got[0].Kind != api.EvAdd {
		t.Errorf("there are %d: %s", len(got), shownEvents(got))
	}
	if got := Of(more.Kids, nil); len(got) != api.MaxEvents+1 || got[0].Kind != api.EvRemove {
		t.Errorf("there are %d: %s", len(got), shownEvents(got))
	}
	if got := Of(nil, pair); len(got) != api.MaxEvents+3 {
		t.Errorf("there are %d: %s", len(got), shownEvents(got))
	}
}

func TestTreesComeToBeOtherOnes(t *testing.T) {
	next, most := rule(5), map[bool]int{}
	for i := range 4000 {
		a, b := grown(next, 4+i%30), grown(next, 4+i%30)
		if next(3) == 0 { // a few changes only
			b = a
			for range 1 + next(4) {
				if c, fault := Apply(b, events(someEvent(next, 4+i%30))); fault == (api.Fault{}) {
					b = c
				}
			}
		}
		checkOf(t, a, b, stepsByHand(a, b)...)
		most[len(b) == 1] = max(most[len(b) == 1], len(Of(a, b)))
	}
	if most[true] != api.MaxEvents || most[false] <= api.MaxEvents {
		t.Errorf("there are at most %d events, of one item, and %d, of others", most[true], most[false])
	}
}

func TestTreesAreOnlyRead(t *testing.T) {
	next := rule(6)
	for i := range 300 {
		a, b := grown(next, 4+i%30), grown(next, 4+i%30)
		want := shownEvents(stepsByHand(a, b))
		roomyA, roomyB := roomyItems(a), roomyItems(b)
		wasA, wasB := wholeItems(roomyA), wholeItems(roomyB)
		for range 2 { // twice as once
			got := Of(roomyA, roomyB)
			if shownEvents(got) != want {
				t.Errorf("%s, not %s", shownEvents(got), want)
			}
			spoilEvents(got)
		}
		if wholeItems(roomyA) != wasA || wholeItems(roomyB) != wasB {
			t.Errorf("what was handed in is changed")
		}
		got := Of(roomyA, roomyB)
		spoil(roomyA)
		spoil(roomyB)
		if shownEvents(got) != want {
			t.Errorf("%s was answered, and is %s", want, shownEvents(got))
		}
	}
}

// TestNoTreePanics: of items whose nodes are not unlike something is told that Apply takes, at least.
func TestNoTreePanics(t *testing.T) {
	next := rule(7)
	for _, a := range strangers() {
		for _, b := range append(strangers(), nil, town()) {
			checkTaken(t, a, b)
			checkTaken(t, b, a)
		}
		for range 300 {
			l := grown(next, 4)
			checkTaken(t, a, l)
			checkTaken(t, l, a)
		}
	}
}

func checkTaken(t *testing.T, a, b []api.Item) {
	t.Helper()
	es := Of(a, b)
	if _, fault := Apply(a, es); fault != (api.Fault{}) {
		t.Errorf("of %s and %s come %s: %v", shown(a), shown(b), shownEvents(es), fault)
	}
}

func TestTreesThatAreNestedDeep(t *testing.T) {
	const last = 1<<16 - 1
	a := nested(0, 1)
	b, _ := Apply(a, events(moving(last, 0, 1), telling(item(last-1, "t"))))
	if got := shownEvents(Of(a, b)); got != shownEvents(events(moving(last, 0, 1), telling(item(last-1, "t")))) {
		t.Errorf("%s", got)
	}
	if got := Of(a, a); len(got) > 0 {
		t.Errorf("there are %d", len(got))
	}
	for _, other := range [][]api.Item{nested(1<<16, 1), nil} {
		got := Of(other, a)
		if len(got) != 1 || got[0].Kind != api.EvAll || len(tree.Nodes(got[0].Item.Kids)) != last {
			t.Errorf("there are %d", len(got))
		}
	}
}

// TestManyItemsSideBySide: as many as may be moved in a test that ends soon.
func TestManyItemsSideBySide(t *testing.T) {
	const count = 5000
	var a, b, c []api.Item
	for n := range count {
		a = append(a, item(n, strconv.Itoa(n)))
		b = append(b, item(count-1-n, strconv.Itoa(n)))
		c = append(c, item(n+count, ""))
	}
	if got := Of(a, b); len(got) != count-1+count {
		t.Errorf("there are %d", len(got))
	}
	if got := Of(a, c); len(got) != 2*count {
		t.Errorf("there are %d", len(got))
	}
}
