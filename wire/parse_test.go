package wire

import (
	"strings"
	"testing"

	"townreader/api"
)

func TestNothingIsRead(t *testing.T) {
	checkParse(t, "")
	if got, err := Parse(nil); len(got) > 0 || err != api.OK {
		t.Errorf("%s, error %d", shownEvents(got), err)
	}
}

// TestEachNumberHasOneForm: wherever a number stands, other ways to write it are refused.
func TestEachNumberHasOneForm(t *testing.T) {
	bad := []string{"", "x", "-", "+", "+1", "+0", "-0", "00", "01", "-01", "007", "--1", "1-", "1x", "0x1", "1_0", "1.0", "1e3", "１", "\t1", "1\t", "1\n",
		"9223372036854775808", "-9223372036854775809", "18446744073709551616", "99999999999999999999999999", "\x001", "1\x00"}
	whole := strings.Fields("1 7 0 0 " + plain)
	for at := range whole {
		for _, b := range bad {
			l := append([]string{}, whole...)
			l[at] = b
			checkNoForm(t, strings.Join(l, " ")+" ")
		}
	}
}

func TestOffIsOneOrNought(t *testing.T) {
	checkParse(t, "1 0 0 0 0 0 0 0 0 0 0 0 ", api.Event{Kind: 1})
	checkParse(t, "1 0 0 0 0 0 0 0 1 0 0 0 ", api.Event{Kind: 1, Item: api.Item{Off: true}})
	for _, off := range []string{"2", "-1", "10", "01", "true", "9223372036854775807", "-9223372036854775808"} {
		checkNoForm(t, "1 0 0 0 0 0 0 0 "+off+" 0 0 0 ")
	}
}

// TestHowManyThereShouldBe: more than there are, fewer, or fewer than none.
func TestHowManyThereShouldBe(t *testing.T) {
	for _, many := range []string{"-1", "1", "9", "60", "9223372036854775807", "-9223372036854775808"} {
		checkNoForm(t, "1 0 0 0 0 0 0 0 0 "+many+" 0 0 ")
		checkNoForm(t, "1 0 0 0 0 0 0 0 0 0 "+many+" 0 ")
		checkNoForm(t, "1 0 0 0 0 0 0 0 0 0 0 "+many+" ")
		checkNoForm(t, "1 0 0 0 0 0 0 0 0 0 0 "+many+" 0 ")
	}
	two := "5 0 0 0 0 0 0 0 0 0 0 2 "
	checkNoForm(t, two+plain)
	checkNoForm(t, two+plain+plain+plain)
	checkParse(t, two+plain+plain, api.Event{Kind: 5, Item: api.Item{Kids: make([]api.Item, 2)}})
	// texts take all that they say, and no byte more
	checkParse(t, "5 0 0 0 0 0 0 0 0 2 0 0 0 ", api.Event{Kind: 5, Item: api.Item{Name: "0 "}})
	checkNoForm(t, "5 0 0 0 0 0 0 0 0 2 0 0 ")
	checkNoForm(t, "5 0 0 0 0 0 0 0 0 1 0 0 0 ")
	checkNoForm(t, "5 0 0 0 0 0 0 0 0 1 ab0 0 ")
}

func TestNothingStandsBesideEvents(t *testing.T) {
	e := "1 7 0 0 " + plain
	checkParse(t, e+e, api.Event{Kind: 1, Node: 7}, api.Event{Kind: 1, Node: 7})
	for _, more := range []string{" ", "\n", "0", "x", "1 ", "1 7 0 0 ", "\x00"} {
		checkNoForm(t, e+more)
		checkNoForm(t, more+" "+e)
	}
	checkNoForm(t, e+e[:len(e)-1])
	checkNoForm(t, e[:len(e)-1]+e)
	checkNoForm(t, " ")
	checkNoForm(t, "0")
	checkNoForm(t, strings.Replace(e, " ", "  ", 1))
	checkNoForm(t, strings.ReplaceAll(e, " ", "\t"))
}

// TestEachBeginning of what is read is refused, but where an event ends.
func TestEachBeginning(t *testing.T) {
	next := rule(3)
	for range 200 {
		l := grown(next)
		ends := map[int]int{}
		for k := range len(l) + 1 {
			ends[len(bytesByHand(l[:k]))] = k
		}
		whole := bytesByHand(l)
		for n := range len(whole) + 1 {
			if k, is := ends[n]; is {
				checkParse(t, whole[:n], l[:k]...)
			} else {
				checkNoForm(t, whole[:n])
			}
		}
	}
}

// TestWhatIsReadIsWrittenSo: bytes that are nearly those of events are either refused, or just those of what is read.
func TestWhatIsReadIsWrittenSo(t *testing.T) {
	const few = "0123456789 -+x"
	next, read, refused := rule(4), 0, 0
	for range 20000 {
		b := []byte(bytesByHand(append(grown(next), api.Event{})))
		for range 1 + next(2) {
			at := next(len(b))
			switch next(3) {
			case 0:
				b[at] = few[next(len(few))]
			case 1:
				b = append(b[:at], b[at+1:]...)
			case 2:
				b = append(b[:at], append([]byte{few[next(len(few))]}, b[at:]...)...)
			}
		}
		l, err := Parse(b)
		if err != api.OK {
			refused++
			checkNoForm(t, string(b))
			continue
		}
		read++
		if bytesByHand(l) != string(b) {
			t.Errorf("%q is read as %s, which is written %q", b, shownEvents(l), bytesByHand(l))
		}
	}
	if read < 1000 || refused < 1000 {
		t.Errorf("%d are read, %d refused", read, refused)
	}
}

func TestHowDeepItemsAreRead(t *testing.T) {
	inner := api.Item{Node: 7, Name: "in"}
	for above := range api.MaxNodes + 4 {
		one := api.Event{Kind: 5, Item: under(above, inner)}
		beside := api.Event{Kind: 5, Item: api.Item{Kids: []api.Item{{}, under(max(above-1, 0), inner), {}}}}
		for _, l := range [][]api.Event{{one}, {{Kind: 1}, one, {Kind: 1}}, {beside}} {
			if above <= api.MaxNodes {
				checkBothWays(t, l, bytesByHand(l))
			} else {
				checkNoForm(t, bytesByHand(l))
			}
		}
	}
	// those beside it, or in other events, are not above it
	wide := api.Item{Kids: make([]api.Item, 3*api.MaxNodes)}
	l := []api.Event{{Item: wide}, {Item: under(api.MaxNodes-1, wide)}}
	for range 3 * api.MaxNodes {
		l = append(l, api.Event{Kind: 1})
	}
	checkBothWays(t, l, bytesByHand(l))
}

// TestWhatIsParsedIsOnlyRead: neither bytes nor the room behind them are changed, looked at, or kept.
func TestWhatIsParsedIsOnlyRead(t *testing.T) {
	next := rule(5)
	for range 300 {
		l := grown(next)
		n := len(bytesByHand(l))
		b := []byte(bytesByHand(append(l, api.Event{Kind: 77})))
		was := string(b)
		for range 2 { // twice as once
			got, err := Parse(b[:n])
			if err != api.OK || shownEvents(got) != shownEvents(l) {
				t.Errorf("%q is read as %s, error %d", b[:n], shownEvents(got), err)
			}
			spoilEvents(got)
		}
		if string(b) != was {
			t.Errorf("%q was handed in, and is %q", was, b)
		}
		got, _ := Parse(b[:n])
		spoilBytes(b)
		if shownEvents(got) != shownEvents(l) {
			t.Errorf("%s was answered, and is %s", shownEvents(l), shownEvents(got))
		}
	}
	// what ends too early doesn't end in the room behind it
	b := []byte("1 7 0 0 0 0 0 0 0 2 ab0 0 ")
	for n := 1; n < len(b); n++ {
		if got, err := Parse(b[:n]); len(got) > 0 || err != api.ErrForm {
			t.Errorf("%q is read as %s, error %d", b[:n], shownEvents(got), err)
		}
	}
}

// TestAnswersShareNoRoom: what is set behind a list of an answer is not set behind another one.
func TestAnswersShareNoRoom(t *testing.T) {
	next := rule(6)
	for range 300 {
		l := grown(next)
		got, _ := Parse([]byte(bytesByHand(l)))
		more := api.Item{Node: 88}
		var setBehind func(l []api.Item)
		setBehind = func(l []api.Item) {
			for _, it := range l {
				setBehind(it.Kids)
			}
			_ = append(l, more, more)
		}
		for _, e := range got {
			setBehind(e.Item.Kids)
		}
		_ = append(got, api.Event{Kind: 88})
		if shownEvents(got) != shownEvents(l) {
			t.Errorf("%s was answered, and is %s", shownEvents(l), shownEvents(got))
		}
	}
}

// TestLongNonsenseEnds: what says that much is to come is not believed ahead of it.
func TestLongNonsenseEnds(t *testing.T) {
	much := "5 0 0 0 0 0 0 0 0 0 0 9223372036854775807 "
	for range 2 * api.MaxNodes {
		checkNoForm(t, much)
		much += "0 0 0 0 0 0 0 9223372036854775807 "
	}
	checkNoForm(t, strings.Repeat("1", 1<<20))
	checkNoForm(t, strings.Repeat(" ", 1<<20))
	checkNoForm(t, strings.Repeat("1 ", 1<<20))
	wide := "5 0 0 0 0 0 0 0 0 0 0 100000 " + strings.Repeat(plain, 100000)
	checkNoForm(t, wide[:len(wide)-1])
	checkParse(t, wide, api.Event{Kind: 5, Item: api.Item{Kids: make([]api.Item, 100000)}})
}
