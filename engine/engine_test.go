package engine

import (
	"math"
	"slices"
	"strings"
	"testing"

	"townreader/api"
	"townreader/diff"
	"townreader/dom"
	"townreader/kinds"
	"townreader/naming"
	"townreader/owns"
	"townreader/role"
	"townreader/tree"
)

func TestANewDocumentOfWhichNothingWasTold(t *testing.T) {
	checkSame(t, New(), api.Engine{Doc: dom.New()})
	main := item(0, api.RoleMain, "", "")
	e := checkFlush(t, New(), 1, api.Event{Kind: api.EvAll, Item: main})
	checkSame(t, e, api.Engine{Doc: dom.New(), Told: []api.Item{main}, Memos: []api.Memo{{Node: 0, Uses: []int{0}}}})
	checkSame(t, checkFlush(t, e, 0), e)
}

func TestPlainAreTextsAndSomeAttributes(t *testing.T) {
	for _, name := range plainNames() {
		for kind := -2; kind < 20; kind++ {
			want := kind == api.ChgAttr || kind == api.ChgClear || kind == api.ChgSay
			if got := Plain(api.Change{Kind: kind, Node: 3, To: 4, Before: 5, Name: name, Value: "v"}); got != want {
				t.Errorf("Plain of kind %d, %s: %v", kind, name, got)
			}
		}
	}
	for _, name := range []string{"", "id", "role", "hidden", "aria-hidden", "href", "type", "for", "slot", "name", "aria-labelledby", "aria-describedby", "aria-owns",
		"Alt", "ALT", " alt", "alt ", "al", "alte", "aria", "aria-", "label", "aria-labels", "aria_label", "level", "check", "aria-check", "disabled", "values", "titl"} {
		for kind := -2; kind < 20; kind++ {
			if got := Plain(api.Change{Kind: kind, Name: name}); got != (kind == api.ChgSay) {
				t.Errorf("Plain of kind %d, %q: %v", kind, name, got)
			}
		}
	}
	for _, kind := range []int{math.MinInt, math.MaxInt} {
		if Plain(api.Change{Kind: kind, Name: "alt"}) {
			t.Errorf("kind %d is plain", kind)
		}
	}
}

// TestPlainChangesAreRemembered: the nodes rise, each once, and all else stays as it was told.
func TestPlainChangesAreRemembered(t *testing.T) {
	e := page(t)
	checkDirty(t, e)
	was := Own(e)
	for _, step := range []struct {
		x    api.Change
		want []int
	}{
		{say(6, "Roads"), []int{6}},
		{attr(3, "title", "t"), []int{3, 6}},
		{say(7, "b"), []int{3, 6, 7}},
		{say(6, "Roads"), []int{3, 6, 7}},
		{cleared(3, "title"), []int{3, 6, 7}},
		{attr(0, "checked", ""), []int{0, 3, 6, 7}},
		{attr(5, "aria-level", "1"), []int{0, 3, 5, 6, 7}},
	} {
		d, n, _ := dom.Apply(e.Doc, step.x)
		y, k, err := Change(e, step.x)
		if err != api.OK || k != n || n != step.x.Node {
			t.Errorf("%+v answers %d, %d, not %d", step.x, k, err, n)
		}
		checkSame(t, y, api.Engine{Doc: d, Told: was.Told, Memos: was.Memos, Dirty: step.want})
		e = y
	}
}

// TestOtherChangesForgetNames: and with them what was changed since, but not what was told.
func TestOtherChangesForgetNames(t *testing.T) {
	e := page(t)
	dirty := grow(t, e, say(6, "Roads"), say(2, "keep"))
	checkDirty(t, dirty, 2, 6)
	for _, x := range []api.Change{
		element(0, "p"), text(3, "x"), moved(7, 3, 4), removed(4), attr(5, "id", "h"), attr(5, "role", "none"), attr(3, "aria-labelledby", "zz"), cleared(3, "aria-labelledby"), attr(5, "hidden", ""), shadow(3),
	} {
		for _, from := range []api.Engine{e, dirty} {
			d, n, _ := dom.Apply(from.Doc, x)
			y, k, err := Change(from, x)
			if err != api.OK || k != n {
				t.Errorf("%+v answers %d, %d, not %d", x, k, err, n)
			}
			checkSame(t, y, api.Engine{Doc: d, Told: e.Told})
		}
	}
	hosted := flushed(t, element(0, "x-host"), shadow(1), element(0, "nav"))
	for _, x := range []api.Change{elementS(1, "slot"), textS(1, "x")} {
		y := grow(t, hosted, attr(2, "title", "t"), x)
		if len(y.Memos) > 0 || len(y.Dirty) > 0 || len(y.Told) != 1 || len(y.Doc) != 4 {
			t.Errorf("%s after %+v", shown(y), x)
		}
	}
	// and what is plain, then, is remembered anew
	checkDirty(t, grow(t, dirty, element(0, "p"), say(2, "x")), 2)
}

func TestTheNodeThatWasMadeIsAnswered(t *testing.T) {
	e := page(t)
	for _, x := range []api.Change{element(0, "p"), text(0, "p")} {
		if _, n, err := Change(e, x); n != 8 || err != api.OK {
			t.Errorf("%+v answers %d, %d", x, n, err)
		}
	}
}

// TestWhatIsRefusedIsNothing: each error is that of Apply, and there is no engine beside it.
func TestWhatIsRefusedIsNothing(t *testing.T) {
	e := grow(t, page(t), say(6, "Roads"))
	long := strings.Repeat("x", api.MaxText+1)
	for _, c := range []struct {
		x   api.Change
		err api.Errno
	}{
		{api.Change{}, api.ErrKind}, {api.Change{Kind: 11}, api.ErrKind}, {api.Change{Kind: -1, Name: "alt"}, api.ErrKind},
		{say(99, "x"), api.ErrNone}, {say(-1, "x"), api.ErrNone}, {attr(8, "title", "x"), api.ErrNone}, {cleared(3, "title"), api.ErrNone},
		{say(1, "x"), api.ErrFit}, {say(2, long), api.ErrFit}, {attr(2, "title", "x"), api.ErrFit}, {removed(0), api.ErrFit},
		{attr(1, "title", long), api.ErrMuch}, {attr(1, "Title", "x"), api.ErrName}, {moved(3, 4, -1), api.ErrLoop},
	} {
		y, n, err := Change(e, c.x)
		if err != c.err || n != 0 {
			t.Errorf("%+v answers %d, %d, not %d", c.x, n, err, c.err)
		}
		checkSame(t, y, api.Engine{})
	}
	full := page(t)
	for range api.MaxKids - 4 {
		full = grow(t, full, element(0, "p"))
	}
	if _, n, err := Change(full, element(0, "p")); n != 0 || err != api.ErrMany {
		t.Errorf("one too many answers %d, %d", n, err)
	}
}

// TestATextThatSaysSomethingElse: the button around it is reckoned anew, and nobody else.
func TestATextThatSaysSomethingElse(t *testing.T) {
	e := page(t)
	e = checkFlush(t, grow(t, e, say(2, "keep")), 1, tell(item(1, api.RoleButton, "keep", "")))
	// just as it was: it is reckoned, and nothing is told
	checkFlush(t, grow(t, e, say(2, " keep\t")), 1)
	// there and back
	checkFlush(t, grow(t, e, say(2, "x"), say(2, "keep")), 1)
	// a text for which nobody was asked
	checkFlush(t, grow(t, e, say(7, "by")), 0, tell(item(7, api.RoleText, "by", "")))
	// two whose names come of one text
	h := item(5, api.RoleHeading, "Roads", "")
	h.Level = 2
	checkFlush(t, grow(t, e, say(6, "Roads")), 2, tell(item(3, api.RoleNav, "Roads", "")), tell(h), tell(item(6, api.RoleText, "Roads", "")))
	// and all of these
	_, es, n := Flush(grow(t, e, say(6, "Roads"), say(2, "x"), say(7, "by")))
	if n != 3 || len(es) != 5 {
		t.Errorf("%d names are reckoned, and there are %d events", n, len(es))
	}
}

// TestWhoIsReckonedAnew hangs on who was asked, not on whether anything is otherwise.
func TestWhoIsReckonedAnew(t *testing.T) {
	e := page(t)
	for _, c := range []struct {
		x    api.Change
		want int
	}{
		{attr(0, "title", "t"), 5}, {attr(0, "checked", ""), 5}, // the root is around all of them
		{attr(1, "title", "t"), 1}, {attr(1, "alt", "t"), 1}, {attr(1, "value", "t"), 1}, {attr(1, "aria-disabled", "true"), 1},
		{attr(3, "title", "t"), 2}, // nav, and the link that is in it
		{attr(4, "aria-label", "l"), 1},
		{attr(5, "aria-checked", "true"), 2}, {attr(5, "aria-level", "3"), 2}, // the heading, and nav, that it labels
	} {
		_, _, n := Flush(grow(t, e, c.x))
		if n != c.want {
			t.Errorf("after %+v %d names are reckoned, not %d", c.x, n, c.want)
		}
		_, _, n = Flush(grow(t, e, c.x, attr(4, "id", "l")))
		if n != 5 {
			t.Errorf("after a change that is not plain, too, %d names are reckoned, not all 5", n)
		}
	}
	if _, _, n := Flush(grow(t, e, attr(5, "id", "h"))); n != 5 {
		t.Errorf("after a change that is not plain %d names are reckoned, not all 5", n)
	}
	if _, _, n := Flush(grow(t, e, text(0, "x"), removed(8))); n != 5 {
		t.Errorf("there and back, %d names are reckoned, not all 5", n)
	}
}

// TestAboutsAreHeardToo: who is described by another one hangs on it, be that hidden or not.
func TestAboutsAreHeardToo(t *testing.T) {
	e := flushed(t, element(0, "button"), attr(1, "aria-label", "b"), attr(1, "aria-describedby", "x"), element(0, "p"), attr(2, "id", "x"), text(2, "why"), attr(2, "hidden", ""), element(0, "input"))
	e = checkFlush(t, grow(t, e, say(3, "how")), 1, tell(item(1, api.RoleButton, "b", "how")))
	checkFlush(t, grow(t, e, attr(4, "value", "v")), 1)
	// a button without a name asks nobody for what else is told of it
	e = flushed(t, element(0, "button"), attr(1, "aria-describedby", "x"), element(0, "p"), attr(2, "id", "x"), text(2, "why"))
	checkFlush(t, grow(t, e, say(3, "how")), 0, tell(item(3, api.RoleText, "how", "")))
	checkFlush(t, grow(t, e, say(3, "how"), attr(1, "title", "t")), 1, tell(item(1, api.RoleButton, "t", "how")), tell(item(3, api.RoleText, "how", "")))
}

func TestALabelIsHeardInItsInput(t *testing.T) {
	e := flushed(t, element(0, "label"), attr(1, "for", "x"), text(1, "Name"), element(0, "input"), attr(3, "id", "x"))
	e = checkFlush(t, grow(t, e, say(2, "Town")), 1, tell(item(2, api.RoleText, "Town", "")), tell(item(3, api.RoleBox, "Town", "")))
	checkFlush(t, grow(t, e, attr(1, "aria-label", "Place")), 1, tell(item(3, api.RoleBox, "Place", "")))
}

// TestAPlainChangeMayMakeAnotherRole: what is around it has a name then, or has none any more, and what is in it may stand alone no more.
func TestAPlainChangeMayMakeAnotherRole(t *testing.T) {
	e := flushed(t, element(0, "section"), element(1, "button"), text(2, "a"))
	e = checkFlush(t, grow(t, e, attr(1, "aria-label", "l")), 2, add(0, 0, item(1, api.RoleRegion, "l", "")), api.Event{Kind: api.EvMove, Node: 2, To: 1})
	checkMemos(t, e, 0, 1, 2)
	e = checkFlush(t, grow(t, e, cleared(1, "aria-label")), 1, api.Event{Kind: api.EvMove, Node: 2}, remove(1))
	checkMemos(t, e, 0, 2)
	e = flushed(t, element(0, "ul"), element(1, "section"), element(2, "li"), element(3, "button"))
	_, es, n := Flush(grow(t, e, attr(2, "title", "t")))
	if want := []api.Event{add(1, 0, item(2, api.RoleRegion, "t", "")), {Kind: api.EvMove, Node: 4, To: 2}, remove(3)}; n != 2 || shownEvents(es) != shownEvents(want) {
		t.Errorf("%d names are reckoned, %s, not %s", n, shownEvents(es), shownEvents(want))
	}
	// a picture that says that it is none
	e = flushed(t, element(0, "img"), element(0, "nav"), element(2, "button"), text(3, "a"))
	e = checkFlush(t, grow(t, e, attr(1, "alt", " ")), 0, remove(1))
	checkMemos(t, e, 0, 2, 3)
	checkFlush(t, grow(t, e, attr(1, "alt", "cat")), 1, add(0, 0, item(1, api.RoleImage, "cat", "")))
	// what becomes a leaf hides what is in it from all
	e = flushed(t, element(0, "button"), attr(1, "role", "none"), element(1, "a"), attr(2, "href", ""), text(2, "x"))
	e = checkFlush(t, grow(t, e, attr(1, "aria-label", "b")), 1, remove(2), add(0, 0, item(1, api.RoleButton, "b", "")))
	checkMemos(t, e, 0, 1)
	checkFlush(t, grow(t, e, cleared(1, "aria-label")), 1, remove(1), add(0, 0, item(2, api.RoleLink, "x", "")), add(2, 0, item(3, api.RoleText, "x", "")))
}

func checkMemos(t *testing.T, e api.Engine, nodes ...int) {
	t.Helper()
	var got []int
	for _, m := range e.Memos {
		got = append(got, m.Node)
	}
	if !slices.Equal(got, nodes) {
		t.Errorf("names of %v are kept, not of %v: %s", got, nodes, shown(e))
	}
}

// TestNamesAreKeptOfWhatIsTold: neither of what has no name, nor of what is hidden, or in a leaf.
func TestNamesAreKeptOfWhatIsTold(t *testing.T) {
	checkMemos(t, page(t), 0, 1, 3, 4, 5)
	checkMemos(t, flushed(t, element(0, "ul"), element(1, "li"), text(2, "a"), element(0, "div"), element(4, "td"), element(0, "section")), 0, 1)
	e := flushed(t, element(0, "div"), element(1, "button"), element(0, "button"), element(3, "nav"), element(0, "x-host"), shadow(5), element(5, "h1"), element(0, "img"))
	checkMemos(t, e, 0, 2, 3, 7)
	hidden := grow(t, e, attr(1, "hidden", ""))
	checkMemos(t, checkFlush(t, hidden, 3, remove(2)), 0, 3, 7)
	checkMemos(t, checkFlush(t, grow(t, hidden, attr(0, "hidden", "")), 0, remove(0)))
}

func TestARootThatIsHiddenComesBack(t *testing.T) {
	e := page(t)
	gone, es, n := Flush(grow(t, e, attr(0, "hidden", "")))
	if n != 0 || len(gone.Told) > 0 || len(gone.Memos) > 0 || len(es) == 0 {
		t.Errorf("%d names are reckoned of a root that is hidden: %s", n, shown(gone))
	}
	back, es, n := Flush(grow(t, gone, cleared(0, "hidden")))
	if want := (api.Event{Kind: api.EvAll, Item: e.Told[0]}); n != 5 || shownEvents(es) != shownEvents([]api.Event{want}) {
		t.Errorf("%d names are reckoned, %s, not %s", n, shownEvents(es), shownEvents([]api.Event{want}))
	}
	checkSame(t, back, e)
}

// TestARootWithoutARoleHasNoName: it is told as main, and is not asked.
func TestARootWithoutARoleHasNoName(t *testing.T) {
	e := flushed(t, attr(0, "role", "row"), attr(0, "title", "t"), element(0, "nav"))
	checkMemos(t, e, 1)
	checkFlush(t, grow(t, e, attr(0, "title", "u")), 1)
	e = checkFlush(t, grow(t, e, attr(0, "role", "main")), 2, tell(item(0, api.RoleMain, "t", "")))
	checkMemos(t, e, 0, 1)
}

func TestMoreThanMaxEventsAreAllToldAnew(t *testing.T) {
	var l []api.Change
	for k := range 2 {
		l = append(l, element(0, "div"))
		for range 11 {
			l = append(l, text(1+12*k, "a"))
		}
	}
	e := flushed(t, l...)
	for n := range len(e.Doc) {
		if !dom.Is(e.Doc, n, true) {
			e = grow(t, e, say(n, "b"))
		}
	}
	if len(e.Dirty) != 22 {
		t.Errorf("%d nodes were changed", len(e.Dirty))
	}
	checkFlush(t, e, 0, api.Event{Kind: api.EvAll, Item: tree.Build(e.Doc)[0]})
}

// byHand are the memos of those that are told and have names, with how many of them come of no memo that was there.
func byHand(e api.Engine) ([]api.Memo, int) {
	claims := owns.Claims(e.Doc)
	var memos []api.Memo
	reckoned := 0
	for _, n := range tree.Nodes(tree.Build(e.Doc)) {
		if !kinds.Of(role.Of(e.Doc, n)).Named {
			continue
		}
		memos = append(memos, naming.Of(e.Doc, claims, n))
		if !isKept(e, n) {
			reckoned++
		}
	}
	return memos, reckoned
}

func isKept(e api.Engine, n int) bool {
	for _, m := range e.Memos {
		if m.Node != n {
			continue
		}
		for _, used := range m.Uses {
			if slices.Contains(e.Dirty, used) {
				return false
			}
		}
		return true
	}
	return false
}

// TestBitByBitAsAtOnce: what is kept is as what is reckoned anew, and who heard all events knows the tree.
func TestBitByBitAsAtOnce(t *testing.T) {
	next := rule(11)
	kept, reckoned, heardEvents := 0, 0, 0
	for range 150 {
		e := grown(next)
		var heard []api.Item
		for range 20 {
			memos, n := byHand(e)
			want := api.Engine{Doc: e.Doc, Told: tree.Build(e.Doc), Memos: memos}
			f, es, k := Flush(e)
			checkSame(t, f, want)
			if k != n || shownEvents(es) != shownEvents(diff.Of(e.Told, want.Told)) {
				t.Fatalf("%d names are reckoned, not %d, or there are other events: %s", k, n, shownEvents(es))
			}
			var fault api.Fault
			if heard, fault = diff.Apply(heard, es); fault.Err != api.OK || shownItems(heard) != shownItems(f.Told) {
				t.Fatalf("who listens has %s (%+v), not %s", shownItems(heard), fault, shownItems(f.Told))
			}
			kept, reckoned, heardEvents = kept+len(f.Memos)-k, reckoned+k, heardEvents+len(es)
			e = stir(f, next)
		}
	}
	if kept < 5000 || reckoned < 2000 || heardEvents < 800 {
		t.Errorf("only %d names are kept, %d reckoned, and %d events told", kept, reckoned, heardEvents)
	}
}

// stir makes some changes, most often plain ones.
func stir(e api.Engine, next func(n int) int) api.Engine {
	for range next(4) {
		x := somePlain(e.Doc, next)
		if next(12) == 0 {
			x = someChange(e.Doc, next)
		}
		if y, _, err := Change(e, x); err == api.OK {
			e = y
		}
	}
	return e
}

// TestWhereNothingIsOtherwiseNothingIsTold: nor is a name reckoned twice.
func TestWhereNothingIsOtherwiseNothingIsTold(t *testing.T) {
	next := rule(12)
	for range 100 {
		e, _, _ := Flush(grown(next))
		checkSame(t, checkFlush(t, e, 0), e)
		checkSame(t, checkFlush(t, Own(e), 0), e)
	}
}

func TestWhatIsHandedInIsOnlyRead(t *testing.T) {
	next := rule(13)
	for range 60 {
		e, _, _ := Flush(grown(next))
		e = stir(e, next)
		x := somePlain(e.Doc, next)
		if next(3) == 0 {
			x = someChange(e.Doc, next)
		}
		in := roomy(e)
		was := whole(in)
		wantChanged, wantN, wantErr := Change(e, x)
		wantFlushed, wantEvents, wantReckoned := Flush(e)
		changed, n, err := Change(in, x)
		checkSame(t, changed, wantChanged)
		told, es, reckoned := Flush(in)
		checkSame(t, told, wantFlushed)
		checkSame(t, Own(in), e)
		if n != wantN || err != wantErr || reckoned != wantReckoned || shownEvents(es) != shownEvents(wantEvents) {
			t.Errorf("by what stands behind the lists it answers %d, %d, %d, %s", n, err, reckoned, shownEvents(es))
		}
		if whole(in) != was {
			t.Errorf("%s was changed to %s", was, whole(in))
		}
	}
}

func TestWhatIsAnsweredIsNewMemory(t *testing.T) {
	next := rule(14)
	for range 60 {
		e, _, _ := Flush(grown(next))
		e = stir(e, next)
		if next(2) == 0 {
			e.Told = nil // so that all is told anew
		}
		x := somePlain(e.Doc, next)
		was := shown(e)
		own := Own(e)
		spoil(own)
		changed, _, _ := Change(e, x)
		told, es, _ := Flush(e)
		wantTold, wantEvents := shown(told), shownEvents(es)
		spoil(changed)
		if shown(told) != wantTold || shown(e) != was {
			t.Fatalf("%s was changed from outside", was)
		}
		other, events, _ := Flush(e)
		spoil(other)
		if shownEvents(events) != wantEvents {
			t.Fatalf("events hang on the engine beside them: %s", shownEvents(events))
		}
		spoilEvents(es)
		if shown(told) != wantTold || shown(e) != was {
			t.Fatalf("%s hangs on the events beside it", wantTold)
		}
	}
	a, b := New(), New()
	spoil(a)
	checkSame(t, b, api.Engine{Doc: dom.New()})
	checkSame(t, New(), b)
}

// TestNoTwoListsShare: each list of numbers is filled, with the room behind it, and still holds its own when all are.
func TestNoTwoListsShare(t *testing.T) {
	dirty := grow(t, page(t), say(2, "x"), say(6, "y"))
	again, _, _ := Flush(dirty)
	for _, e := range []api.Engine{page(t), dirty, Own(dirty), again} {
		lists := [][]int{e.Dirty}
		for _, m := range e.Memos {
			lists = append(lists, m.Uses)
		}
		for _, n := range e.Doc {
			lists = append(lists, n.Kids, n.Shadow)
		}
		for i, l := range lists {
			fill(l, i)
		}
		for i, l := range lists {
			if slices.ContainsFunc(l[:cap(l)], func(n int) bool { return n != i }) {
				t.Errorf("list %d is shared: %v", i, l[:cap(l)])
			}
		}
	}
}

func TestTwiceAsOnce(t *testing.T) {
	next := rule(15)
	for range 60 {
		e, _, _ := Flush(grown(next))
		e = stir(e, next)
		x := somePlain(e.Doc, next)
		a, n, err := Change(e, x)
		b, k, again := Change(e, x)
		checkSame(t, a, b)
		c, es, r := Flush(e)
		d, events, s := Flush(e)
		checkSame(t, c, d)
		if n != k || err != again || r != s || shownEvents(es) != shownEvents(events) {
			t.Errorf("twice is not as once: %s", shown(e))
		}
	}
}

func TestNilAndListsWithoutEntriesAreTheSame(t *testing.T) {
	bare := New()
	filled := api.Engine{Doc: dom.New(), Told: []api.Item{}, Memos: []api.Memo{}, Dirty: []int{}}
	filled.Doc[0].Attrs, filled.Doc[0].Kids, filled.Doc[0].Shadow = []api.Attr{}, []int{}, []int{}
	checkSame(t, Own(filled), bare)
	for _, x := range []api.Change{attr(0, "title", "t"), element(0, "p"), say(0, "x")} {
		a, _, _ := Change(bare, x)
		b, _, _ := Change(filled, x)
		checkSame(t, a, b)
	}
	a, es, n := Flush(bare)
	b, events, k := Flush(filled)
	checkSame(t, a, b)
	if n != k || shownEvents(es) != shownEvents(events) {
		t.Errorf("%d, %s, not %d, %s", k, shownEvents(events), n, shownEvents(es))
	}
}

// TestEnginesThatNobodyMadeEndToo: nothing is promised of what comes of them, but that it comes.
func TestEnginesThatNobodyMadeEndToo(t *testing.T) {
	e, es, n := Flush(api.Engine{})
	if len(es) > 0 || n != 0 {
		t.Errorf("%d names are reckoned of no document: %s", n, shownEvents(es))
	}
	checkSame(t, e, api.Engine{})
	checkSame(t, Own(api.Engine{}), api.Engine{})
	if _, _, err := Change(api.Engine{}, attr(0, "title", "t")); err != api.ErrNone {
		t.Errorf("a change of no document answers %d", err)
	}
	odd := page(t)
	odd.Memos = append(odd.Memos, api.Memo{Node: -5, Uses: []int{-1, math.MaxInt}}, api.Memo{Node: 1, Name: "again", Uses: []int{2}}, api.Memo{Node: math.MaxInt})
	odd.Dirty = []int{math.MaxInt, -3, 6, 6, 2, math.MinInt}
	odd.Told = append(odd.Told, odd.Told[0], api.Item{Node: -1}, api.Item{Node: math.MinInt})
	f, _, _ := Flush(odd)
	if shownItems(f.Told) != shownItems(tree.Build(odd.Doc)) || len(f.Dirty) > 0 {
		t.Errorf("%s", shown(f))
	}
	y, _, err := Change(odd, say(2, "x"))
	if err != api.OK {
		t.Errorf("a change is refused: %d", err)
	}
	checkDirty(t, y, math.MinInt, -3, 2, 6, math.MaxInt)
}
