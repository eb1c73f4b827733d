package diff

import (
	"strconv"
	"testing"

	"townreader/api"
	"townreader/tree"
)

func TestAllIsOneItem(t *testing.T) {
	it := api.Item{Node: 7, Role: api.RoleHeading, Name: "n", About: "a", Level: 2, Checked: 3, Off: true, Kids: items(item(0, "in", item(9, "in it")))}
	for _, l := range [][]api.Item{nil, {}, town()} {
		checkApply(t, l, events(allIs(it)), it)
	}
	checkApply(t, town(), events(allIs(item(0, ""))), item(0, ""))
}

func TestAnItemIsAdded(t *testing.T) {
	n := api.Item{Node: 9, Role: api.RoleCheck, Name: "n", About: "a", Level: 1, Checked: 2, Off: true}
	a, b, c, d, e := item(1, "a"), item(2, "b", item(3, "c")), item(3, "c"), item(4, "d"), item(5, "e")
	checkApply(t, town(), events(adding(n, 0, 0)), item(0, "", n, a, b, d), e)
	checkApply(t, town(), events(adding(n, 0, 2)), item(0, "", a, b, n, d), e)
	checkApply(t, town(), events(adding(n, 0, 3)), item(0, "", a, b, d, n), e)
	checkApply(t, town(), events(adding(n, 2, 0)), item(0, "", a, item(2, "b", n, c), d), e)
	checkApply(t, town(), events(adding(n, 3, 0)), item(0, "", a, item(2, "b", item(3, "c", n)), d), e)
	for _, to := range []int{-1, -2, -9} { // below 0: in none
		checkApply(t, town(), events(adding(n, to, 0)), append(items(n), town()...)...)
		checkApply(t, town(), events(adding(n, to, 1)), town()[0], n, e)
		checkApply(t, town(), events(adding(n, to, 2)), append(town(), n)...)
	}
	checkApply(t, nil, events(adding(n, -1, 0)), n)
	n.Kids = []api.Item{}
	checkApply(t, nil, events(adding(n, -1, 0)), n)
}

func TestAnItemIsNotAdded(t *testing.T) {
	n, full := item(9, "n"), item(9, "n", item(8, ""))
	checkFault(t, town(), events(adding(n, 8, 0)), api.ErrNone, 0)
	checkFault(t, town(), events(adding(n, 9, 0)), api.ErrNone, 0) // it is not there itself
	checkFault(t, nil, events(adding(n, 0, 0)), api.ErrNone, 0)
	for _, at := range []int{-1, -9, 4, 99} {
		checkFault(t, town(), events(adding(n, 0, at)), api.ErrRange, 0)
	}
	checkFault(t, town(), events(adding(n, 1, 1)), api.ErrRange, 0)
	checkFault(t, town(), events(adding(n, -1, 3)), api.ErrRange, 0)
	checkFault(t, town(), events(adding(n, -1, -1)), api.ErrRange, 0)
	checkFault(t, town(), events(adding(full, 0, 3)), api.ErrFit, 0)
	for _, taken := range []int{0, 1, 3, 5} {
		checkFault(t, town(), events(adding(item(taken, "n"), 0, 3)), api.ErrName, 0)
	}
	// of several that fit the one that is named first
	taken := item(1, "n", item(8, ""))
	checkFault(t, town(), events(adding(taken, 8, -1)), api.ErrNone, 0)
	checkFault(t, town(), events(adding(taken, 0, 4)), api.ErrRange, 0)
	checkFault(t, town(), events(adding(taken, 0, 3)), api.ErrFit, 0)
}

func TestAnItemIsMoved(t *testing.T) {
	a, b, c, d, e := item(1, "a"), item(2, "b", item(3, "c")), item(3, "c"), item(4, "d"), item(5, "e")
	checkApply(t, town(), events(moving(1, 0, 0)), town()...) // it stands there already
	checkApply(t, town(), events(moving(1, 0, 1)), item(0, "", b, a, d), e)
	checkApply(t, town(), events(moving(1, 0, 2)), item(0, "", b, d, a), e)
	checkApply(t, town(), events(moving(4, 0, 0)), item(0, "", d, a, b), e)
	checkApply(t, town(), events(moving(2, 4, 0)), item(0, "", a, item(4, "d", b)), e)
	checkApply(t, town(), events(moving(2, 5, 0)), item(0, "", a, d), item(5, "e", b))
	checkApply(t, town(), events(moving(1, 3, 0)), item(0, "", item(2, "b", item(3, "c", a)), d), e)
	checkApply(t, town(), events(moving(3, 0, 3)), item(0, "", a, item(2, "b"), d, c), e) // to what it is in already
	checkApply(t, town(), events(moving(0, 5, 0)), item(5, "e", town()[0]))
	for _, to := range []int{-1, -2, -9} {
		checkApply(t, town(), events(moving(2, to, 1)), item(0, "", a, d), b, e)
		checkApply(t, town(), events(moving(2, to, 2)), item(0, "", a, d), e, b)
		checkApply(t, town(), events(moving(0, to, 1)), e, town()[0])
		checkApply(t, town(), events(moving(5, to, 0)), e, town()[0])
	}
}

func TestAnItemIsNotMoved(t *testing.T) {
	checkFault(t, town(), events(moving(8, 0, 0)), api.ErrNone, 0)
	checkFault(t, town(), events(moving(-1, 0, 0)), api.ErrNone, 0)
	checkFault(t, nil, events(moving(0, -1, 0)), api.ErrNone, 0)
	checkFault(t, town(), events(moving(2, 2, 0)), api.ErrLoop, 0)
	checkFault(t, town(), events(moving(2, 3, 0)), api.ErrLoop, 0)
	checkFault(t, town(), events(moving(0, 3, 0)), api.ErrLoop, 0)
	checkFault(t, town(), events(moving(1, 8, 0)), api.ErrNone, 0)
	for _, at := range []int{-1, -9, 3, 99} { // without it there are two
		checkFault(t, town(), events(moving(1, 0, at)), api.ErrRange, 0)
	}
	checkFault(t, town(), events(moving(3, 0, 4)), api.ErrRange, 0)
	checkFault(t, town(), events(moving(1, 4, 1)), api.ErrRange, 0)
	checkFault(t, town(), events(moving(0, -1, 2)), api.ErrRange, 0)
	checkFault(t, town(), events(moving(1, -1, 3)), api.ErrRange, 0)
	checkFault(t, town(), events(moving(1, -1, -1)), api.ErrRange, 0)
	// of several that fit the one that is named first
	checkFault(t, town(), events(moving(8, 8, -1)), api.ErrNone, 0)
	checkFault(t, town(), events(moving(2, 2, -1)), api.ErrLoop, 0)
	checkFault(t, town(), events(moving(2, 3, 9)), api.ErrLoop, 0)
	checkFault(t, town(), events(moving(1, 8, -1)), api.ErrNone, 0)
}

func TestAnItemIsRemoved(t *testing.T) {
	a, b, d, e := item(1, "a"), item(2, "b", item(3, "c")), item(4, "d"), item(5, "e")
	checkApply(t, town(), events(removing(1)), item(0, "", b, d), e)
	checkApply(t, town(), events(removing(2)), item(0, "", a, d), e)
	checkApply(t, town(), events(removing(3)), item(0, "", a, item(2, "b"), d), e)
	checkApply(t, town(), events(removing(0)), e)
	checkApply(t, town(), events(removing(5), removing(0)))
	for _, n := range []int{8, -1, 99} {
		checkFault(t, town(), events(removing(n)), api.ErrNone, 0)
	}
	checkFault(t, nil, events(removing(0)), api.ErrNone, 0)
	// what was in it is gone too, and its node may come again
	checkFault(t, town(), events(removing(2), removing(3)), api.ErrNone, 1)
	checkFault(t, town(), events(removing(2), moving(3, 0, 0)), api.ErrNone, 1)
	checkFault(t, town(), events(removing(2), moving(1, 3, 0)), api.ErrNone, 1)
	checkFault(t, town(), events(removing(2), adding(item(9, ""), 3, 0)), api.ErrNone, 1)
	checkApply(t, town(), events(removing(2), adding(item(3, "n"), 1, 0)), item(0, "", item(1, "a", item(3, "n")), d), e)
}

func TestAnItemIsToldOtherwise(t *testing.T) {
	n := api.Item{Node: 2, Role: api.RoleCheck, Name: "n", About: "x", Level: 4, Checked: 3, Off: true}
	told := n
	told.Kids = items(item(3, "c"))
	a, d, e := item(1, "a"), item(4, "d"), item(5, "e")
	checkApply(t, town(), events(telling(n)), item(0, "", a, told, d), e)
	checkApply(t, town(), events(telling(n), telling(item(2, "b"))), town()...)
	n.Kids = []api.Item{}
	checkApply(t, town(), events(telling(n)), item(0, "", a, told, d), e)
	for _, x := range []int{8, -1} {
		checkFault(t, town(), events(telling(item(x, ""))), api.ErrNone, 0)
	}
	of := func(n int, it api.Item) []api.Event { return events(api.Event{Kind: api.EvTell, Node: n, Item: it}) }
	checkFault(t, town(), of(2, item(3, "n")), api.ErrFit, 0)
	checkFault(t, town(), of(2, item(9, "n")), api.ErrFit, 0)
	checkFault(t, town(), of(2, item(2, "n", item(9, ""))), api.ErrFit, 0)
	checkFault(t, town(), of(2, item(2, "n", item(3, "c"))), api.ErrFit, 0)
	checkFault(t, town(), of(8, item(2, "n", item(9, ""))), api.ErrNone, 0)
}

func TestNoSuchKindOfEvent(t *testing.T) {
	for _, kind := range []int{0, 6, -1, 99, -1 << 63, 1<<63 - 1} {
		checkFault(t, town(), events(api.Event{Kind: kind}), api.ErrKind, 0)
		checkFault(t, town(), events(api.Event{Kind: kind, Node: 8, To: 8, At: -1, Item: item(1, "", item(1, ""))}), api.ErrKind, 0)
	}
}

// TestFieldsThatAKindHasNot mean nothing, whatever stands in them.
func TestFieldsThatAKindHasNot(t *testing.T) {
	full := item(1, "", item(1, ""))
	add, move, remove, tell, all := adding(item(9, "n"), 0, 1), moving(2, 5, 0), removing(4), telling(item(2, "n")), allIs(item(9, "n"))
	for _, e := range events(add, move, remove, tell, all) {
		want, _ := Apply(town(), events(e))
		if e.Kind == api.EvAdd || e.Kind == api.EvAll {
			e.Node = 8
		}
		if e.Kind == api.EvRemove || e.Kind == api.EvTell || e.Kind == api.EvAll {
			e.To, e.At = 8, -1
		}
		if e.Kind == api.EvMove || e.Kind == api.EvRemove {
			e.Item = full
		}
		checkApply(t, town(), events(e), want...)
	}
}

func TestEventByEvent(t *testing.T) {
	for _, none := range [][]api.Event{nil, {}} {
		checkApply(t, nil, none)
		checkApply(t, []api.Item{}, none)
		checkApply(t, town(), none, town()...)
	}
	es := events(
		adding(item(9, "n"), 0, 0), moving(3, 9, 0), adding(item(6, "f"), 3, 0), removing(2), adding(item(2, "again"), 6, 0),
		moving(5, 0, 3), moving(9, 5, 0), telling(item(3, "C")), removing(1), moving(6, -1, 0))
	checkApply(t, town(), es,
		item(6, "f", item(2, "again")), item(0, "", item(4, "d"), item(5, "e", item(9, "n", item(3, "C")))))
	// what goes there and back is as it was
	checkApply(t, town(), events(moving(2, 5, 0), moving(2, 0, 1), moving(5, 3, 0), moving(5, -1, 1)), town()...)
	// each event is held against what the others made
	checkFault(t, town(), append(es, removing(1)), api.ErrNone, len(es))
	checkFault(t, town(), append(es, adding(item(2, ""), -1, 0)), api.ErrName, len(es))
	checkFault(t, town(), append(es, moving(5, 3, 0)), api.ErrLoop, len(es))
	checkFault(t, town(), events(removing(1), moving(1, 0, 0), removing(9)), api.ErrNone, 1) // the first fault is told
	checkFault(t, town(), events(allIs(item(9, "")), removing(0)), api.ErrNone, 1)
	checkApply(t, town(), events(allIs(item(9, "", item(8, ""))), adding(item(0, "n"), 8, 0), moving(0, 9, 0)), item(9, "", item(0, "n"), item(8, "")))
}

// someEvent is one of nodes and places that are mostly there, or nearly.
func someEvent(next func(n int) int, most int) api.Event {
	e := api.Event{Kind: 1 + next(4), Node: next(most), To: next(most+1) - 1, At: next(5) - 1, Item: grownItem(next, next(most))}
	switch next(40) {
	case 0:
		e.Kind = []int{0, 6, -1}[next(3)]
	case 1:
		e.Kind, e.Item.Kids = api.EvAll, items(item(most, "more"))
	case 2:
		e.Item.Kids = items(item(most, "more"))
	case 3:
		e.Node -= most
	}
	if e.Kind == api.EvTell && next(8) > 0 {
		e.Item.Node = e.Node
	}
	return e
}

func TestEventsAsTheyAreByHand(t *testing.T) {
	next, counts := rule(1), map[api.Errno]int{}
	for range 3000 {
		l := grown(next, 10)
		s, es := shelfOf(l), []api.Event(nil)
		for range 12 {
			e := someEvent(next, 10)
			err := s.fault(e)
			counts[err]++
			if err != api.OK {
				checkFault(t, l, append(es, e), err, len(es))
				continue
			}
			s, es = s.take(e), append(es, e)
		}
		checkApply(t, l, es, s.list(-1)...)
	}
	for _, err := range []api.Errno{api.OK, api.ErrKind, api.ErrRange, api.ErrNone, api.ErrName, api.ErrFit, api.ErrLoop} {
		if counts[err] < 100 {
			t.Errorf("error %d comes only %d times", err, counts[err])
		}
	}
}

// TestWhatIsAppliedIsOnlyRead: neither lists nor the room behind them are changed, looked at, or answered.
func TestWhatIsAppliedIsOnlyRead(t *testing.T) {
	next := rule(2)
	for range 300 {
		l := grown(next, 10)
		var es []api.Event
		s := shelfOf(l)
		for range 8 {
			if e := someEvent(next, 10); s.fault(e) == api.OK {
				s, es = s.take(e), append(es, e)
			}
		}
		given, givenEvents := roomyItems(l), roomyEvents(es)
		was, wasEvents := wholeItems(given), wholeEvents(givenEvents)
		for range 2 { // twice as once
			checkApply(t, given, givenEvents, s.list(-1)...)
			got, _ := Apply(given, givenEvents)
			spoil(got)
		}
		if wholeItems(given) != was || wholeEvents(givenEvents) != wasEvents {
			t.Errorf("what was handed in is changed")
		}
		got, _ := Apply(given, givenEvents)
		spoil(given)
		spoilEvents(givenEvents)
		if shown(got) != shown(s.list(-1)) {
			t.Errorf("%s was answered, and is %s", shown(s.list(-1)), shown(got))
		}
	}
}

// TestAnswersShareNoRoom: what is set behind a list of an answer is not set behind another one.
func TestAnswersShareNoRoom(t *testing.T) {
	got, _ := Apply(town(), nil)
	_ = append(got[0].Kids[1].Kids, item(88, ""))
	_ = append(got[0].Kids[0].Kids, item(88, ""))
	_ = append(got[0].Kids, item(88, ""))
	_ = append(got, item(88, ""))
	if shown(got) != shown(town()) {
		t.Errorf("%s, not %s", shown(got), shown(town()))
	}
}

// strangers are items whose nodes are not unlike, or below 0.
func strangers() [][]api.Item {
	return [][]api.Item{
		items(item(1, "", item(1, "", item(1, "")))),
		items(item(1, ""), item(1, "x"), item(2, "", item(1, "", item(2, "")))),
		items(item(-1, "", item(-1, ""), item(-3, "", item(0, "")))),
		items(item(0, "", item(2, "", item(0, "", item(2, "", item(1, "")))), item(0, ""))),
		items(item(0, "", item(1, "", item(2, "", item(0, "")))), item(2, "", item(1, "", item(0, "")))),
	}
}

// TestNoEventPanics: whatever it is given.
func TestNoEventPanics(t *testing.T) {
	next := rule(3)
	for _, l := range strangers() {
		for range 2000 {
			var es []api.Event
			for range 6 {
				e := someEvent(next, 3)
				e.Item.Kids = nil
				if next(20) == 0 {
					e = allIs(strangers()[next(5)][0])
				}
				es = append(es, e)
			}
			for i := range es {
				Apply(l, es[i:])
			}
		}
		checkApply(t, l, nil, l...)
	}
	const far = 1<<63 - 1
	for _, n := range []int{far, -far - 1} {
		checkFault(t, town(), events(adding(item(9, ""), 0, n)), api.ErrRange, 0)
		checkFault(t, town(), events(moving(1, 0, n)), api.ErrRange, 0)
		checkFault(t, town(), events(removing(n)), api.ErrNone, 0)
	}
	checkFault(t, town(), events(adding(item(9, ""), far, 0)), api.ErrNone, 0)
	checkApply(t, nil, events(adding(item(far, ""), -far-1, 0)), item(far, ""))
}

// nested has items as deep as anything may be, from the outermost node first on.
func nested(first, step int) []api.Item {
	var l []api.Item
	for i := range 1 << 16 {
		n := first + step*(1<<16-1-i)
		l = items(api.Item{Node: n, Name: strconv.Itoa(n), Kids: l})
	}
	return l
}

func TestEventsOfItemsThatAreNestedDeep(t *testing.T) {
	const last = 1<<16 - 1
	l, fault := Apply(nested(0, 1), events(telling(item(last, "t")), moving(last, 0, 0), removing(1), adding(item(1, ""), last, 0)))
	if fault != (api.Fault{}) || shown(l) != shown(items(api.Item{Node: 0, Name: "0", Kids: items(item(last, "t", item(1, "")))})) {
		t.Errorf("%v, %s", fault, shown(l))
	}
	checkFault(t, nested(0, 1), events(moving(0, last, 0)), api.ErrLoop, 0)
	l, _ = Apply(nested(0, 1), nil)
	if nodes := tree.Nodes(l); len(nodes) != last+1 || nodes[last] != last {
		t.Errorf("there are %d nodes", len(nodes))
	}
}
