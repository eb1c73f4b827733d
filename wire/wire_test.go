package wire

import (
	"strings"
	"testing"

	"townreader/api"
)

// plain is an item of nothing but noughts, as it is written.
const plain = "0 0 0 0 0 0 0 0 "

func TestEventsAsBytes(t *testing.T) {
	checkBothWays(t, []api.Event{{Kind: api.EvRemove, Node: 7}}, "1 7 0 0 "+plain)
	checkBothWays(t, []api.Event{{Kind: 5, Node: 6, To: 7, At: 8}}, "5 6 7 8 "+plain)
	checkBothWays(t, []api.Event{{}}, "0 0 0 0 "+plain)
	checkBothWays(t, []api.Event{{Kind: 1}, {Kind: 2}, {Kind: 1}}, "1 0 0 0 "+plain+"2 0 0 0 "+plain+"1 0 0 0 "+plain)
	for _, none := range [][]api.Event{nil, {}} {
		checkBothWays(t, none, "")
	}
}

func TestFieldsOfItems(t *testing.T) {
	full := api.Item{Node: 1, Role: 2, Level: 3, Checked: 4, Off: true, Name: "five", About: "sixsix"}
	for _, c := range []struct {
		item api.Item
		want string
	}{
		{api.Item{Node: 1}, "1 0 0 0 0 0 0 0 "},
		{api.Item{Role: 1}, "0 1 0 0 0 0 0 0 "},
		{api.Item{Level: 1}, "0 0 1 0 0 0 0 0 "},
		{api.Item{Checked: 1}, "0 0 0 1 0 0 0 0 "},
		{api.Item{Off: true}, "0 0 0 0 1 0 0 0 "},
		{api.Item{Name: "a"}, "0 0 0 0 0 1 a0 0 "},
		{api.Item{About: "a"}, "0 0 0 0 0 0 1 a0 "},
		{full, "1 2 3 4 1 4 five6 sixsix0 "},
	} {
		checkBothWays(t, []api.Event{{Kind: 4, Item: c.item}}, "4 0 0 0 "+c.want)
		around := api.Item{Kids: []api.Item{c.item}}
		checkBothWays(t, []api.Event{{Kind: 4, Item: around}}, "4 0 0 0 0 0 0 0 0 0 0 1 "+c.want)
	}
}

func TestKidsStandBehindWhatTheyAreIn(t *testing.T) {
	a := api.Item{Node: 1, Kids: []api.Item{{Node: 2, Kids: []api.Item{{Node: 3}}}, {Node: 4}}}
	checkBothWays(t, []api.Event{{Kind: 5, Item: a}, {Kind: 1, Node: 5}},
		"5 0 0 0 1 0 0 0 0 0 0 2 2 0 0 0 0 0 0 1 3 0 0 0 0 0 0 0 4 0 0 0 0 0 0 0 1 5 0 0 "+plain)
	// a list without entries is written as none is
	checkBothWays(t, []api.Event{{Item: api.Item{Kids: []api.Item{}}}}, "0 0 0 0 "+plain)
	// how many there are is written in tens, too
	wide := api.Item{Kids: make([]api.Item, 12)}
	checkBothWays(t, []api.Event{{Item: wide}}, "0 0 0 0 0 0 0 0 0 0 0 12 "+strings.Repeat(plain, 12))
}

func TestNumbers(t *testing.T) {
	for n, want := range map[int]string{
		0: "0 ", 9: "9 ", 10: "10 ", 100: "100 ", 1234567890: "1234567890 ", -1: "-1 ", -10: "-10 ",
		1<<63 - 1: "9223372036854775807 ", -1 << 63: "-9223372036854775808 ",
	} {
		it := api.Item{Node: n, Role: n, Level: n, Checked: n}
		four := strings.Repeat(want, 4)
		checkBothWays(t, []api.Event{{Kind: n, Node: n, To: n, At: n, Item: it}}, four+four+"0 0 0 0 ")
	}
}

func TestTextsAreBytes(t *testing.T) {
	for s, want := range map[string]string{
		"":                      "0 ",
		" ":                     "1  ",
		"0 ":                    "2 0 ",
		"a\nb\t":                "4 a\nb\t",
		"ü":                     "2 \xc3\xbc",
		"\xff\x00\xfe":          "3 \xff\x00\xfe",
		"0123456789":            "10 0123456789",
		strings.Repeat("x", 61): "61 " + strings.Repeat("x", 61),
	} {
		checkBothWays(t, []api.Event{{Item: api.Item{Name: s, About: s}}}, "0 0 0 0 0 0 0 0 0 "+want+want+"0 ")
	}
}

// TestFieldsThatAKindHasNot are written and read as all others, and so are events of no kind.
func TestFieldsThatAKindHasNot(t *testing.T) {
	it := api.Item{Node: 3, Kids: []api.Item{{Node: 4}}}
	for kind := -2; kind < 8; kind++ {
		l := []api.Event{{Kind: kind, Node: 1, To: -9, At: -1, Item: it}}
		checkBothWays(t, l, bytesByHand(l))
	}
}

func TestWhatIsWrittenIsRead(t *testing.T) {
	next := rule(1)
	for range 3000 {
		l := grown(next)
		checkBothWays(t, l, bytesByHand(l))
	}
}

// TestWhatIsWrittenIsOnlyRead: neither lists nor the room behind them are changed, looked at, or answered.
func TestWhatIsWrittenIsOnlyRead(t *testing.T) {
	next := rule(2)
	for range 300 {
		l := roomyEvents(grown(next))
		was, want := wholeEvents(l), bytesByHand(l)
		for range 2 { // twice as once
			got := Bytes(l)
			if string(got) != want {
				t.Errorf("%s is written %q, not %q", shownEvents(l), got, want)
			}
			spoilBytes(got)
		}
		if wholeEvents(l) != was {
			t.Errorf("what was handed in is changed")
		}
		got := Bytes(l)
		spoilEvents(l)
		if string(got) != want {
			t.Errorf("%q was answered, and is %q", want, got)
		}
	}
}

// TestItemsThatAreNestedDeep: as deep as anything may be, they are written, though nobody reads them.
func TestItemsThatAreNestedDeep(t *testing.T) {
	const deep = 1<<16 - 1
	got := string(Bytes([]api.Event{{Kind: 5, Item: under(deep, api.Item{Node: 7})}}))
	if !strings.HasPrefix(got, "5 0 0 0 65534 0 0 0 0 0 0 1 65533 ") || !strings.HasSuffix(got, " 1 0 0 0 0 0 0 0 1 7 0 0 0 0 0 0 0 ") {
		t.Errorf("%q .. %q", got[:40], got[len(got)-40:])
	}
	checkNoForm(t, got)
}
