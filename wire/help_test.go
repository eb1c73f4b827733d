package wire

import (
	"fmt"
	"strings"
	"testing"

	"townreader/api"
)

// shown tells all fields of items, of nil as of a list without entries.
func shown(l []api.Item) string {
	var out []string
	for _, it := range l {
		out = append(out, fmt.Sprintf("%d %d %q %q %d %d %t %s", it.Node, it.Role, it.Name, it.About, it.Level, it.Checked, it.Off, shown(it.Kids)))
	}
	return "[" + strings.Join(out, ", ") + "]"
}

func shownEvents(l []api.Event) string {
	var out []string
	for _, e := range l {
		out = append(out, fmt.Sprintf("%d %d %d %d %s", e.Kind, e.Node, e.To, e.At, shown([]api.Item{e.Item})))
	}
	return strings.Join(out, "; ")
}

// bytesByHand are the bytes that the document's words ask for.
func bytesByHand(l []api.Event) string {
	out := ""
	for _, e := range l {
		out += fmt.Sprintf("%d %d %d %d ", e.Kind, e.Node, e.To, e.At) + itemByHand(e.Item)
	}
	return out
}

func itemByHand(it api.Item) string {
	off := 0
	if it.Off {
		off = 1
	}
	out := fmt.Sprintf("%d %d %d %d %d %d %s%d %s%d ", it.Node, it.Role, it.Level, it.Checked, off, len(it.Name), it.Name, len(it.About), it.About, len(it.Kids))
	for _, kid := range it.Kids {
		out += itemByHand(kid)
	}
	return out
}

// checkBothWays: l is written just so, and this is read as l.
func checkBothWays(t *testing.T, l []api.Event, want string) {
	t.Helper()
	if got := Bytes(l); string(got) != want {
		t.Errorf("%s is written %q, not %q", shownEvents(l), got, want)
	}
	checkParse(t, want, l...)
}

func checkParse(t *testing.T, b string, want ...api.Event) {
	t.Helper()
	got, err := Parse([]byte(b))
	if err != api.OK || shownEvents(got) != shownEvents(want) {
		t.Errorf("%q is read as %s, error %d, not as %s", b, shownEvents(got), err, shownEvents(want))
	}
}

func checkNoForm(t *testing.T, b string) {
	t.Helper()
	got, err := Parse([]byte(b))
	if err != api.ErrForm || len(got) > 0 {
		t.Errorf("%q is read as %s, error %d, not refused", b, shownEvents(got), err)
	}
}

// under is an item with so many above it.
func under(above int, it api.Item) api.Item {
	for n := range above {
		it = api.Item{Node: n, Kids: []api.Item{it}}
	}
	return it
}

// rule answers numbers below n, one after the other, always the same ones.
func rule(state uint64) func(n int) int {
	return func(n int) int {
		state = state*6364136223846793005 + 1442695040888963407
		return int(state>>33) % n
	}
}

func grownNumber(next func(n int) int) int {
	few := []int{0, 1, -1, 7, 9, 10, -10, 99, 100, 12345, -1 << 63, 1<<63 - 1}
	return few[next(len(few))]
}

func grownText(next func(n int) int) string {
	few := []string{"", "", "a", " ", "7", "7 ", "1 0 ", "-1 ", "a b", "\x00", "\xff\xfe", "ü", "\n", strings.Repeat("long ", 30)}
	return few[next(len(few))]
}

func grownItem(next func(n int) int, most int) api.Item {
	it := api.Item{Node: grownNumber(next), Role: grownNumber(next), Name: grownText(next), About: grownText(next), Level: grownNumber(next), Checked: grownNumber(next), Off: next(2) == 0}
	for range next(most + 1) {
		it.Kids = append(it.Kids, grownItem(next, most-1))
	}
	return it
}

func grown(next func(n int) int) []api.Event {
	var l []api.Event
	for range next(4) {
		l = append(l, api.Event{Kind: grownNumber(next), Node: grownNumber(next), To: grownNumber(next), At: grownNumber(next), Item: grownItem(next, 3)})
	}
	return l
}

// roomyItems is l with room behind each of its lists, in which stands an item 77.
func roomyItems(l []api.Item) []api.Item {
	var out []api.Item
	for _, it := range l {
		it.Kids = roomyItems(it.Kids)
		out = append(out, it)
	}
	return append(out, api.Item{Node: 77})[:len(l)]
}

func roomyEvents(l []api.Event) []api.Event {
	var out []api.Event
	for _, e := range l {
		e.Item.Kids = roomyItems(e.Item.Kids)
		out = append(out, e)
	}
	return append(out, api.Event{Kind: 77})[:len(l)]
}

// wholeItems tells items with the one that stands behind each of their lists.
func wholeItems(l []api.Item) string {
	out := shown(l[:len(l)+1])
	for _, it := range l {
		out += wholeItems(it.Kids)
	}
	return out
}

func wholeEvents(l []api.Event) string {
	out := shownEvents(l[:len(l)+1])
	for _, e := range l {
		out += wholeItems(e.Item.Kids)
	}
	return out
}

// spoil writes into all lists of items, and into the room behind them.
func spoil(l []api.Item) {
	for _, it := range l {
		spoil(it.Kids)
	}
	l = l[:cap(l)]
	for i := range l {
		l[i] = api.Item{Node: 99, Name: "spoilt"}
	}
}

func spoilEvents(l []api.Event) {
	for _, e := range l {
		spoil(e.Item.Kids)
	}
	l = l[:cap(l)]
	for i := range l {
		l[i] = api.Event{Kind: 99}
	}
}

func spoilBytes(b []byte) {
	b = b[:cap(b)]
	for i := range b {
		b[i] = '9'
	}
}
