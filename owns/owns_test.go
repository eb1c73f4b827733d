package owns

import (
	"math"
	"slices"
	"strconv"
	"strings"
	"testing"

	"townreader/api"
	"townreader/dom"
	"townreader/flat"
)

// strange: numbers that no node of a document has.
var strange = []int{math.MinInt, -60, -2, -1, 60, 61, math.MaxInt}

func TestWhatHasTheIdIsInIt(t *testing.T) {
	d := grow(t, rows(t), owning(2, "d"))
	l := checkClaims(t, d, 2, 4)
	for n, up := range []int{-1, 0, 0, 0, 2, 1, 1, 5} {
		checkUp(t, d, l, n, up)
	}
	for n, kids := range [][]int{{1, 2, 3}, {5, 6}, {4}, {}, {}, {7}, {}, {}} {
		checkKids(t, d, l, n, kids...)
	}
	for n := range d {
		want := -1
		if n == 4 {
			want = 2
		}
		checkOwner(t, l, n, want)
	}
}

func TestWithoutClaimsItIsAsItIsShown(t *testing.T) {
	d := rows(t)
	checkClaims(t, d)
	for _, l := range [][]api.Claim{nil, {}} {
		for n := -1; n <= len(d); n++ {
			checkOwner(t, l, n, -1)
			checkUp(t, d, l, n, flat.Up(d, n))
			checkKids(t, d, l, n, flat.Kids(d, n)...)
		}
	}
	checkClaims(t, grow(t, d, owning(2, "d"), cleared(2, "aria-owns")))
	checkClaims(t, grow(t, d, owning(2, "d"), removed(4)))
	checkClaims(t, grow(t, d, owning(2, "d"), removed(2)))
	checkClaims(t, grow(t, d, owning(2, "d"), cleared(4, "id")))
}

func TestTokensAreTakenOneByOne(t *testing.T) {
	d := rows(t)
	for _, c := range []struct {
		ids  string
		want []int
	}{
		{"", nil}, {" \t\r\n", nil}, {"zz", nil}, {"D", nil}, {"d,c", nil}, {"#d", nil}, {"d\v", nil}, {"d\u00a0c", nil}, {"\xff", nil},
		{"d", []int{2, 4}}, {" d ", []int{2, 4}}, {"\td\n", []int{2, 4}},
		{"d c", []int{2, 4, 2, 3}}, {"c d", []int{2, 3, 2, 4}}, {"c\r\nd", []int{2, 3, 2, 4}}, {"g zz a d", []int{2, 7, 2, 1, 2, 4}},
		{"d d", []int{2, 4}}, {"d c d c", []int{2, 4, 2, 3}},
	} {
		checkClaims(t, grow(t, d, owning(2, c.ids)), c.want...)
	}
}

func TestOtherAttributesClaimNothing(t *testing.T) {
	d := rows(t)
	for _, name := range []string{"owns", "aria-own", "aria-ownss", "aria-labelledby", "aria-controls", "for"} {
		checkClaims(t, grow(t, d, attr(2, name, "d")))
	}
	d = grow(t, d, owning(2, "dd"), attr(4, "name", "dd"), attr(4, "class", "dd"))
	checkClaims(t, d)
	checkClaims(t, grow(t, d, id(4, " dd "))) // ids are held byte by byte
	checkClaims(t, grow(t, d, id(4, "dd")), 2, 4)
}

func TestNodesComeInTheOrderInWhichTheyAreShown(t *testing.T) {
	d := grow(t, rows(t), owning(3, "b"), owning(7, "d"), owning(6, "c"))
	checkClaims(t, d, 7, 4, 6, 3, 3, 2)
	checkClaims(t, grow(t, d, moved(3, 0, 1)), 3, 2, 7, 4, 6, 3)
	checkClaims(t, grow(t, d, moved(6, 1, 5)), 6, 3, 7, 4, 3, 2)
}

func TestTheFirstOneHasIt(t *testing.T) {
	d := grow(t, rows(t), owning(2, "d"), owning(3, "d"))
	checkClaims(t, d, 2, 4)
	checkClaims(t, grow(t, d, moved(3, 0, 2)), 3, 4)
	checkClaims(t, grow(t, d, owning(7, "d")), 7, 4)
	checkClaims(t, grow(t, d, owning(2, "zz")), 3, 4)
	checkClaims(t, grow(t, d, owning(2, "d f"), owning(3, "f d e")), 2, 4, 2, 6, 3, 5)
}

func TestTheFirstOneWithTheIdIsMeant(t *testing.T) {
	d := grow(t, rows(t), id(3, "d"), owning(2, "d"), owning(6, "d"))
	checkClaims(t, d, 6, 3) // 4 has the id too, but Find does not tell of it
	checkClaims(t, grow(t, d, moved(4, 0, 1)), 6, 4)
	d = grow(t, d, id(2, "d"), cleared(6, "aria-owns"))
	checkClaims(t, d) // 2 has the id itself, and is the first one
}

func TestNothingOwnsItself(t *testing.T) {
	d := rows(t)
	checkClaims(t, grow(t, d, owning(2, "b")))
	checkClaims(t, grow(t, d, owning(2, "b d b")), 2, 4)
	checkClaims(t, grow(t, d, owning(7, "g e a")))
	checkClaims(t, grow(t, d, owning(7, "a f")), 7, 6)
	checkClaims(t, grow(t, d, owning(5, "a")))
}

func TestTheRootIsOwnedByNobody(t *testing.T) {
	d := grow(t, rows(t), id(0, "root"), owning(2, "root"), owning(7, "root"), owning(0, "root"))
	checkClaims(t, d)
	d = build(t, element(0, "p"), id(0, "root"), owning(1, "lost root"), element(0, "x-host"), shadow(2), element(2, "b"), id(3, "lost"), owning(3, "root"))
	checkClaims(t, d)
}

func TestTheRootOwns(t *testing.T) {
	d := grow(t, rows(t), owning(0, "g b"))
	l := checkClaims(t, d, 0, 7, 0, 2)
	checkKids(t, d, l, 0, 1, 3, 4, 7, 2)
	checkKids(t, d, l, 5)
	checkUp(t, d, l, 7, 0)
	checkUp(t, d, l, 2, 0)
}

// TestLoopsGoByClaimsSoFar: what is around a node hangs on what was claimed ahead of it.
func TestLoopsGoByClaimsSoFar(t *testing.T) {
	d := rows(t)
	checkClaims(t, grow(t, d, owning(2, "c"), owning(3, "b")), 2, 3)
	checkClaims(t, grow(t, d, owning(2, "c"), owning(3, "d"), owning(4, "b c")), 2, 3, 3, 4)
	checkClaims(t, grow(t, d, owning(7, "b"), owning(2, "a g e f")), 7, 2, 2, 6)
	checkClaims(t, grow(t, d, owning(1, "b"), owning(2, "a c"), owning(3, "a b")), 1, 2, 2, 3)
	// 5 is in 2 by a claim: where it stands, in 1, it is no longer
	d = grow(t, d, moved(2, 0, 1))
	checkClaims(t, grow(t, d, owning(2, "e"), owning(5, "a")), 2, 5, 5, 1)
	checkClaims(t, grow(t, d, owning(2, "e"), owning(7, "b a")), 2, 5, 7, 1)
	checkClaims(t, grow(t, d, owning(7, "a"), owning(6, "e")), 6, 5)
	checkClaims(t, grow(t, d, owning(6, "e"), owning(7, "a")), 6, 5)
}

// TestClaimsOfOneNode: what a node claims is no reason to refuse the next one, nor to take it.
func TestClaimsOfOneNode(t *testing.T) {
	d := rows(t)
	l := checkClaims(t, grow(t, d, owning(3, "g e a")), 3, 7, 3, 5, 3, 1)
	checkKids(t, d, l, 3, 7, 5, 1)
	checkKids(t, d, l, 5)
	checkKids(t, d, l, 1, 6)
	l = checkClaims(t, grow(t, d, owning(3, "a e g")), 3, 1, 3, 5, 3, 7)
	checkKids(t, d, l, 3, 1, 5, 7)
}

func TestWhatIsInItMayBeClaimed(t *testing.T) {
	d := grow(t, rows(t), owning(1, "e"))
	l := checkClaims(t, d, 1, 5)
	checkKids(t, d, l, 1, 6, 5) // it comes behind the others then
	d = grow(t, d, owning(1, "g f e"))
	l = checkClaims(t, d, 1, 7, 1, 6, 1, 5)
	checkKids(t, d, l, 1, 7, 6, 5)
	checkKids(t, d, l, 5)
}

func TestWhatIsClaimedComesLast(t *testing.T) {
	d := grow(t, rows(t), text(2, "t"), element(2, "i"), owning(2, "g c"))
	l := checkClaims(t, d, 2, 7, 2, 3)
	checkKids(t, d, l, 2, 8, 9, 7, 3)
	checkKids(t, d, l, 0, 1, 2, 4)
	checkUp(t, d, l, 8, 2)
}

// host is node 1, a, with a shadow tree: 2, b, and in it a slot, 3, c; 4, d, goes to that, and 5, e, to none. 6, f, is in the root, and 7, d, in the shadow tree.
func host(t *testing.T) api.Doc {
	t.Helper()
	return build(t, element(0, "x-host"), shadow(1), elementS(1, "div"), element(2, "slot"), element(1, "p"), element(1, "p"), element(0, "p"), elementS(1, "p"),
		attr(5, "slot", "nowhere"), id(1, "a"), id(2, "b"), id(3, "c"), id(4, "d"), id(5, "e"), id(6, "f"), id(7, "d"))
}

func TestOnlyWhatIsShownIsClaimed(t *testing.T) {
	d := host(t)
	checkClaims(t, grow(t, d, owning(6, "e d")), 6, 4)
	checkClaims(t, grow(t, d, owning(6, "e"), cleared(5, "slot")), 6, 5)
	d = grow(t, d, element(5, "b"), id(8, "h"), owning(6, "h"))
	checkClaims(t, d)
	checkClaims(t, grow(t, d, cleared(5, "slot")), 6, 8)
}

func TestOnlyWhatIsShownClaims(t *testing.T) {
	d := grow(t, host(t), owning(5, "f"))
	checkClaims(t, d)
	checkClaims(t, grow(t, d, cleared(5, "slot")), 5, 6)
}

func TestWhatIsHiddenClaimsAndIsClaimed(t *testing.T) {
	d := grow(t, rows(t), attr(2, "hidden", ""), attr(4, "aria-hidden", "true"), owning(2, "c d"))
	checkClaims(t, d, 2, 3, 2, 4)
}

func TestIdsAreOfOneScope(t *testing.T) {
	d := host(t)
	checkClaims(t, grow(t, d, owning(6, "b c d")), 6, 4)
	checkClaims(t, grow(t, d, owning(2, "a d f")), 2, 7)
	checkClaims(t, grow(t, d, owning(3, "d")), 3, 7)
	checkClaims(t, grow(t, d, owning(1, "d")), 1, 4)
	checkClaims(t, grow(t, d, owning(7, "d c b")), 7, 3, 7, 2)
}

// TestClaimsGoByWhatIsShown: 4 stands in 1, but is shown in 3.
func TestClaimsGoByWhatIsShown(t *testing.T) {
	d := host(t)
	checkClaims(t, grow(t, d, owning(4, "a")))
	checkClaims(t, grow(t, d, owning(4, "f a")), 4, 6)
	d = grow(t, d, owning(6, "d"), element(4, "b"), id(8, "h"))
	l := checkClaims(t, d, 6, 4)
	checkKids(t, d, l, 3)
	checkKids(t, d, l, 6, 4)
	checkKids(t, d, l, 1, 2, 7)
	checkUp(t, d, l, 4, 6)
	checkUp(t, d, l, 8, 4)
	checkUp(t, d, l, 5, -1)
	checkClaims(t, grow(t, d, owning(8, "a")), 6, 4) // it is in 1 yet when it is its turn
	// ahead of 1, 6 claims 4 first: 8 may have 1 then, and not 6
	checkClaims(t, grow(t, d, owning(8, "a f"), moved(6, 0, 1)), 6, 4, 8, 1)
}

// TestASlotWhoseNodesAreClaimed has nothing in it: what stands in it is not shown instead.
func TestASlotWhoseNodesAreClaimed(t *testing.T) {
	d := grow(t, host(t), text(3, "instead"), owning(6, "d"))
	l := checkClaims(t, d, 6, 4)
	checkKids(t, d, l, 3)
	checkUp(t, d, l, 8, -1)
}

func TestOwner(t *testing.T) {
	l := pairs(3, 4, 3, 1, 1, 7)
	for n, want := range []int{-1, 3, -1, -1, 3, -1, -1, 1, -1} {
		checkOwner(t, l, n, want)
	}
	for _, n := range strange {
		checkOwner(t, l, n, -1)
		checkOwner(t, nil, n, -1)
	}
	checkOwner(t, pairs(2, 5, 1, 5, 3, 6), 5, 2) // the first one
	checkOwner(t, pairs(0, 5), 5, 0)
	checkOwner(t, pairs(0, 5), 0, -1)
}

func TestNumbersThatAreNoNodes(t *testing.T) {
	d := grow(t, rows(t), element(0, "p"), removed(3), owning(2, "d g"))
	l := checkClaims(t, d, 2, 4, 2, 7)
	for _, n := range append([]int{3, len(d)}, strange...) {
		checkOwner(t, l, n, -1)
		checkUp(t, d, l, n, -1)
		checkKids(t, d, l, n)
	}
}

func TestNothingIsClaimedInNothing(t *testing.T) {
	for _, d := range []api.Doc{nil, {}, dom.New()} {
		checkClaims(t, d)
		for n := -1; n < 2; n++ {
			checkUp(t, d, nil, n, -1)
			checkKids(t, d, nil, n)
		}
	}
}

// claimsByHand keeps what each node is in as numbers, and goes by these alone.
func claimsByHand(d api.Doc) []api.Claim {
	shown := flat.Shown(d)
	up := make([]int, len(d))
	owned := make([]int, len(d))
	for n := range up {
		up[n] = flat.Up(d, n)
	}
	var out []api.Claim
	for _, n := range shown {
		value, _ := dom.Attr(d, n, "aria-owns")
		for _, token := range strings.Fields(value) {
			kid := dom.Find(d, n, token)
			if kid <= 0 || owned[kid] > 0 || !slices.Contains(shown, kid) {
				continue
			}
			at := n
			for at >= 0 && at != kid {
				at = up[at]
			}
			if at < 0 {
				up[kid] = n
				owned[kid]++
				out = append(out, api.Claim{Owner: n, Kid: kid})
			}
		}
	}
	return out
}

func TestClaimsOfManyDocuments(t *testing.T) {
	next := rule(1)
	claimed, most := 0, 0
	for range 1500 {
		d := grown(next)
		var want []int
		for _, c := range claimsByHand(d) {
			want = append(want, c.Owner, c.Kid)
		}
		checkClaims(t, d, want...)
		claimed += len(want) / 2
		most = max(most, len(want)/2)
	}
	if claimed < 1500 || most < 6 {
		t.Errorf("only %d are claimed, at most %d in one document", claimed, most)
	}
}

func TestNothingIsWithinItself(t *testing.T) {
	next := rule(2)
	for range 500 {
		d := grown(next)
		l, shown := Claims(d), flat.Shown(d)
		var all []int
		var walk func(n int)
		walk = func(n int) {
			if all = append(all, n); len(all) > len(d) {
				t.Fatalf("what is in the root does not end: %v", all)
			}
			for _, k := range Kids(d, l, n) {
				walk(k)
			}
		}
		walk(0)
		slices.Sort(all)
		slices.Sort(shown)
		if !slices.Equal(all, shown) {
			t.Errorf("%v are in the root, and %v are shown", all, shown)
		}
		for _, n := range all {
			above := 0
			for at := n; at != 0; at = Up(d, l, at) {
				if above++; at < 0 || above > len(d) {
					t.Fatalf("%d is not in the root, or within itself: %v", n, l)
				}
			}
		}
	}
}

func TestUpAndKidsGoTogether(t *testing.T) {
	next := rule(3)
	for range 500 {
		d := grown(next)
		l := Claims(d)
		ups := make([]int, len(d))
		for n := range ups {
			ups[n] = -1
		}
		for up := range d {
			for _, n := range Kids(d, l, up) {
				if ups[n] >= 0 {
					t.Errorf("%d is in %d and in %d", n, ups[n], up)
				}
				ups[n] = up
			}
		}
		for n, up := range ups {
			checkUp(t, d, l, n, up)
		}
	}
}

// deep is as many nodes as there may be, shown within one another, all of one id, which each of them lists as often as an attribute may: what stands in one with a shadow tree is shown at that tree's end.
func deep(t *testing.T) api.Doc {
	t.Helper()
	d := dom.New()
	many := strings.TrimSpace(strings.Repeat("a ", api.MaxText/2))
	add := func(x api.Change) {
		n := len(d)
		d = grow(t, d, x, owning(n, many), id(n, "a"))
	}
	for host := 0; ; {
		add(element(host, "p"))
		host = len(d) - 1
		d = grow(t, d, shadow(host))
		add(elementS(host, "p"))
		for dom.Deep(d, len(d)-1) < api.MaxDeep-1 && len(d) < api.MaxNodes {
			add(element(len(d)-1, "p"))
		}
		if len(d) > api.MaxNodes-3 {
			return d
		}
		add(element(len(d)-1, "slot"))
	}
}

func TestManyThatListWhatTheyAreIn(t *testing.T) {
	d := deep(t)
	if shown := flat.Shown(d); len(d) < api.MaxNodes-2 || len(shown) != len(d) {
		t.Fatalf("there are %d nodes, and %d are shown", len(d), len(shown))
	}
	for range 20 { // it is quick: what a node is in is looked up once, not for each id
		checkClaims(t, d)
	}
}

func idOf(n int) string { return "n" + strconv.Itoa(n) }

// TestALongLineOfClaims: each one owns the next one, and the last one would own some of those that it is in.
func TestALongLineOfClaims(t *testing.T) {
	d := dom.New()
	var want []int
	for n := 1; n < api.MaxNodes; n++ {
		d = grow(t, d, element((n-1)/api.MaxKids, "p"), id(n, idOf(n)))
	}
	shown := flat.Shown(d)[1:]
	for i, n := range shown[:len(shown)-1] {
		d = grow(t, d, owning(n, idOf(shown[i+1])))
		want = append(want, n, shown[i+1])
	}
	last := shown[len(shown)-1]
	d = grow(t, d, owning(last, idOf(shown[0])+" "+idOf(shown[30])+" "+idOf(last)))
	l := checkClaims(t, d, want...)
	checkKids(t, d, l, 0, shown[0])
	for i, n := range shown[:len(shown)-1] {
		checkKids(t, d, l, n, shown[i+1])
	}
	checkKids(t, d, l, last)
}

func TestWhatIsHandedInIsOnlyRead(t *testing.T) {
	next := rule(4)
	for range 30 {
		d := grown(next)
		l := Claims(d)
		given, claims := roomy(d), roomyClaims(d, l)
		was, wasClaims := whole(given), slices.Clone(claims[:len(l)+len(d)])
		if got := Claims(given); !slices.Equal(got, l) {
			t.Errorf("Claims = %v, not %v, with room behind lists", got, l)
		}
		spoil(Claims(given), api.Claim{Owner: 1, Kid: 1})
		for n := -1; n < len(d)+2; n++ {
			checkOwner(t, claims, n, Owner(l, n))
			checkUp(t, given, claims, n, Up(d, l, n))
			checkKids(t, given, claims, n, Kids(d, l, n)...)
			spoil(Kids(given, claims, n), 99)
			checkKids(t, given, claims, n, Kids(d, l, n)...) // twice as once
		}
		if !same(whole(given), was) || !slices.Equal(claims[:len(l)+len(d)], wasClaims) {
			t.Errorf("what was handed in is changed")
		}
	}
}
