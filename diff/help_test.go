package diff

import (
	"slices"
	"strconv"
	"strings"
	"testing"

	"townreader/api"
	"townreader/tree"
)

// item is what is told of a node that is called so, with these in it.
func item(n int, name string, kids ...api.Item) api.Item {
	return api.Item{Node: n, Role: api.RoleGroup, Name: name, Kids: kids}
}

func adding(it api.Item, to, at int) api.Event {
	return api.Event{Kind: api.EvAdd, To: to, At: at, Item: it}
}

func moving(n, to, at int) api.Event {
	return api.Event{Kind: api.EvMove, Node: n, To: to, At: at}
}

func removing(n int) api.Event { return api.Event{Kind: api.EvRemove, Node: n} }

func telling(it api.Item) api.Event {
	return api.Event{Kind: api.EvTell, Node: it.Node, Item: it}
}

func allIs(it api.Item) api.Event { return api.Event{Kind: api.EvAll, Item: it} }

func items(l ...api.Item) []api.Item { return l }

func events(l ...api.Event) []api.Event { return l }

// town is 0, and in it 1, 2 with 3, and 4; beside it 5.
func town() []api.Item {
	return items(item(0, "", item(1, "a"), item(2, "b", item(3, "c")), item(4, "d")), item(5, "e"))
}

// shown tells all fields of items, of nil as of a list without entries.
func shown(l []api.Item) string {
	var out []string
	for _, it := range l {
		parts := []string{strconv.Itoa(it.Node), strconv.Itoa(it.Role), strconv.Quote(it.Name), strconv.Quote(it.About), strconv.Itoa(it.Level), strconv.Itoa(it.Checked), strconv.FormatBool(it.Off), shown(it.Kids)}
		out = append(out, strings.Join(parts, " "))
	}
	return "[" + strings.Join(out, ", ") + "]"
}

// shownEvents tells all fields of events, those that a kind has not too.
func shownEvents(es []api.Event) string {
	var out []string
	for _, e := range es {
		var parts []string
		for _, n := range []int{e.Kind, e.Node, e.To, e.At} {
			parts = append(parts, strconv.Itoa(n))
		}
		out = append(out, strings.Join(parts, " ")+" "+shown(items(e.Item)))
	}
	return strings.Join(out, "; ")
}

func checkApply(t *testing.T, l []api.Item, es []api.Event, want ...api.Item) {
	t.Helper()
	got, fault := Apply(l, es)
	if fault != (api.Fault{}) || shown(got) != shown(want) {
		t.Errorf("of %s by %s comes %s, %v, not %s", shown(l), shownEvents(es), shown(got), fault, shown(want))
	}
}

func checkFault(t *testing.T, l []api.Item, es []api.Event, err api.Errno, at int) {
	t.Helper()
	got, fault := Apply(l, es)
	if len(got) > 0 || fault != (api.Fault{Err: err, At: at}) {
		t.Errorf("of %s by %s comes %s, %v, not error %d at %d", shown(l), shownEvents(es), shown(got), fault, err, at)
	}
}

func checkOf(t *testing.T, a, b []api.Item, want ...api.Event) {
	t.Helper()
	got := Of(a, b)
	if shownEvents(got) != shownEvents(want) {
		t.Errorf("of %s comes %s by %s, not by %s", shown(a), shown(b), shownEvents(got), shownEvents(want))
	}
	checkApply(t, a, got, b...)
}

// rule answers numbers below n, one after the other, always the same ones.
func rule(state uint64) func(n int) int {
	return func(n int) int {
		state = state*6364136223846793005 + 1442695040888963407
		return int(state>>33) % n
	}
}

// grown is items of some of the nodes below most, in any order, in one another, and told in few ways, so that two such trees have much in common.
func grown(next func(n int) int, most int) []api.Item {
	s := shelf{kids: map[int][]int{}, items: map[int]api.Item{}}
	there := []int{-1}
	oneRoot := next(2) == 0
	for range next(most + 1) {
		n, to := next(most), there[next(len(there))]
		if _, is := s.items[n]; is {
			continue
		}
		if oneRoot && to < 0 && len(there) > 1 {
			to = there[1]
		}
		s.kids[to] = slices.Insert(s.kids[to], next(len(s.kids[to])+1), n)
		s.items[n] = grownItem(next, n)
		there = append(there, n)
	}
	return s.list(-1)
}

func grownItem(next func(n int) int, n int) api.Item {
	it := item(n, "n")
	switch next(12) {
	case 0:
		it.Name = "other"
	case 1:
		it.About = "x"
	case 2:
		it.Level = 2
	case 3:
		it.Checked = 3
	case 4:
		it.Off = true
	case 5:
		it.Role = api.RoleCell
	}
	return it
}

// roomyItems is l with room behind each of its lists, in which stands an item 77.
func roomyItems(l []api.Item) []api.Item {
	var out []api.Item
	for _, it := range l {
		it.Kids = roomyItems(it.Kids)
		out = append(out, it)
	}
	return append(out, item(77, "unseen"))[:len(l)]
}

// wholeItems tells items with the one that stands behind each of their lists.
func wholeItems(l []api.Item) string {
	out := []string{}
	for _, it := range l {
		out = append(out, shown(items(it))+wholeItems(it.Kids))
	}
	return strings.Join(append(out, shown(l[len(l):len(l)+1])), ", ")
}

// roomyEvents is es with an event behind it, and with room behind the lists of its items.
func roomyEvents(es []api.Event) []api.Event {
	var out []api.Event
	for _, e := range es {
		e.Item.Kids = roomyItems(e.Item.Kids)
		out = append(out, e)
	}
	return append(out, allIs(item(77, "unseen")))[:len(es)]
}

func wholeEvents(es []api.Event) string {
	out := shownEvents(es[:len(es)+1])
	for _, e := range es {
		out += wholeItems(e.Item.Kids)
	}
	return out
}

// spoil writes into all lists of items, and into the room behind them.
func spoil(l []api.Item) {
	for _, it := range l {
		spoil(it.Kids)
	}
	l = l[:cap(l)]
	for i := range l {
		l[i] = item(99, "spoilt")
	}
}

func spoilEvents(es []api.Event) {
	for _, e := range es {
		spoil(e.Item.Kids)
	}
	es = es[:cap(es)]
	for i := range es {
		es[i] = allIs(item(99, "spoilt"))
	}
}

// shelf has items by their nodes, and what is in what (-1: in none), to go by the document's words one at a time.
type shelf struct {
	kids  map[int][]int
	items map[int]api.Item
}

func shelfOf(l []api.Item) shelf {
	s := shelf{kids: map[int][]int{}, items: map[int]api.Item{}}
	s.keep(-1, l)
	return s
}

func (s shelf) keep(to int, l []api.Item) {
	for _, it := range l {
		s.kids[to] = append(s.kids[to], it.Node)
		s.keep(it.Node, it.Kids)
		it.Kids = nil
		s.items[it.Node] = it
	}
}

func (s shelf) list(to int) []api.Item {
	var l []api.Item
	for _, n := range s.kids[to] {
		it := s.items[n]
		it.Kids = s.list(n)
		l = append(l, it)
	}
	return l
}

// in is all that is in the items of node n, each ahead of what is in it (of -1: all).
func (s shelf) in(n int) []int { return tree.Nodes(s.list(n)) }

func (s shelf) has(n int) bool {
	_, is := s.items[n]
	return is
}

func (s shelf) upOf(n int) (int, int) {
	for up, kids := range s.kids {
		if at := slices.Index(kids, n); at >= 0 {
			return up, at
		}
	}
	return -2, -1
}

func (s shelf) without(n int) {
	up, at := s.upOf(n)
	s.kids[up] = slices.Delete(slices.Clone(s.kids[up]), at, at+1)
}

// fault is why an event is refused, if it is.
func (s shelf) fault(e api.Event) api.Errno {
	to := max(e.To, -1)
	switch e.Kind {
	case api.EvAll:
		return api.OK
	case api.EvAdd:
		switch {
		case to >= 0 && !s.has(to):
			return api.ErrNone
		case e.At < 0 || e.At > len(s.kids[to]):
			return api.ErrRange
		case len(e.Item.Kids) > 0:
			return api.ErrFit
		case s.has(e.Item.Node):
			return api.ErrName
		}
		return api.OK
	case api.EvMove:
		places := len(slices.DeleteFunc(slices.Clone(s.kids[to]), func(k int) bool { return k == e.Node }))
		switch {
		case !s.has(e.Node):
			return api.ErrNone
		case to == e.Node || slices.Contains(s.in(e.Node), to):
			return api.ErrLoop
		case to >= 0 && !s.has(to):
			return api.ErrNone
		case e.At < 0 || e.At > places:
			return api.ErrRange
		}
		return api.OK
	case api.EvRemove, api.EvTell:
		switch {
		case !s.has(e.Node):
			return api.ErrNone
		case e.Kind == api.EvTell && (e.Item.Node != e.Node || len(e.Item.Kids) > 0):
			return api.ErrFit
		}
		return api.OK
	}
	return api.ErrKind
}

// take is what comes of an event that is not refused.
func (s shelf) take(e api.Event) shelf {
	to := max(e.To, -1)
	switch e.Kind {
	case api.EvAll:
		return shelfOf(items(e.Item))
	case api.EvAdd:
		s.kids[to] = slices.Insert(s.kids[to], e.At, e.Item.Node)
		s.items[e.Item.Node] = e.Item
	case api.EvMove:
		s.without(e.Node)
		s.kids[to] = slices.Insert(s.kids[to], e.At, e.Node)
	case api.EvRemove:
		s.without(e.Node)
		return shelfOf(s.list(-1))
	case api.EvTell:
		s.items[e.Node] = e.Item
	}
	return s
}

// stepsByHand are the events that the document's words ask for, one at a time, each found anew by what stands then.
func stepsByHand(a, b []api.Item) []api.Event {
	if len(a) == 0 && len(b) == 1 {
		return events(allIs(b[0]))
	}
	s, goal := shelfOf(a), shelfOf(b)
	var es []api.Event
	for {
		e, is := s.nextRemoved(goal, true)
		if !is {
			break
		}
		es, s = append(es, e), s.take(e)
	}
	for _, n := range goal.in(-1) {
		to, at := goal.upOf(n)
		if !s.has(n) {
			es = append(es, adding(goal.items[n], to, at))
			s = s.take(es[len(es)-1])
		} else if isTo, isAt := s.upOf(n); isTo != to || isAt != at {
			es = append(es, moving(n, to, at))
			s = s.take(es[len(es)-1])
		}
	}
	for {
		e, is := s.nextRemoved(goal, false)
		if !is {
			break
		}
		es, s = append(es, e), s.take(e)
	}
	for _, n := range goal.in(-1) {
		if shown(items(s.items[n])) != shown(items(goal.items[n])) {
			es = append(es, telling(goal.items[n]))
		}
	}
	if len(es) > api.MaxEvents && len(b) == 1 {
		return events(allIs(b[0]))
	}
	return es
}

// nextRemoved is the first one that is not in goal, nor, if that is asked, anything in it.
func (s shelf) nextRemoved(goal shelf, all bool) (api.Event, bool) {
	for _, n := range s.in(-1) {
		if !goal.has(n) && !(all && slices.ContainsFunc(s.in(n), goal.has)) {
			return removing(n), true
		}
	}
	return api.Event{}, false
}
