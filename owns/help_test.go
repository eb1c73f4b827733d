package owns

import (
	"slices"
	"testing"

	"townreader/api"
	"townreader/dom"
)

func element(up int, tag string) api.Change {
	return api.Change{Kind: api.ChgMake, Node: up, Before: -1, Name: tag}
}

func text(up int, value string) api.Change {
	return api.Change{Kind: api.ChgText, Node: up, Before: -1, Value: value}
}

func elementS(up int, tag string) api.Change {
	return api.Change{Kind: api.ChgMakeS, Node: up, Before: -1, Name: tag}
}

func moved(n, to, before int) api.Change {
	return api.Change{Kind: api.ChgMove, Node: n, To: to, Before: before}
}

func removed(n int) api.Change { return api.Change{Kind: api.ChgRemove, Node: n} }

func attr(n int, name, value string) api.Change {
	return api.Change{Kind: api.ChgAttr, Node: n, Name: name, Value: value}
}

func id(n int, value string) api.Change { return attr(n, "id", value) }

func owning(n int, ids string) api.Change { return attr(n, "aria-owns", ids) }

func cleared(n int, name string) api.Change {
	return api.Change{Kind: api.ChgClear, Node: n, Name: name}
}

func shadow(n int) api.Change { return api.Change{Kind: api.ChgShadow, Node: n} }

// grow makes all changes, none of which may be refused.
func grow(t *testing.T, d api.Doc, l ...api.Change) api.Doc {
	t.Helper()
	for i, x := range l {
		y, _, err := dom.Apply(d, x)
		if err != api.OK {
			t.Fatalf("change %d, %+v, is refused: %d", i, x, err)
		}
		d = y
	}
	return d
}

func build(t *testing.T, l ...api.Change) api.Doc {
	t.Helper()
	return grow(t, dom.New(), l...)
}

// rows is nodes 1 to 4, with the ids a to d, in the root; 5, e, and 6, f, are in 1, and 7, g, is in 5.
func rows(t *testing.T) api.Doc {
	t.Helper()
	return build(t,
		element(0, "div"), element(0, "div"), element(0, "div"), element(0, "div"),
		element(1, "p"), element(1, "p"), element(5, "b"),
		id(1, "a"), id(2, "b"), id(3, "c"), id(4, "d"), id(5, "e"), id(6, "f"), id(7, "g"))
}

// pairs is claims: owner, kid, owner, kid, and so on.
func pairs(l ...int) []api.Claim {
	var claims []api.Claim
	for i := 0; i < len(l); i += 2 {
		claims = append(claims, api.Claim{Owner: l[i], Kid: l[i+1]})
	}
	return claims
}

// checkClaims tells what is claimed: owner, kid, owner, kid, and so on.
func checkClaims(t *testing.T, d api.Doc, want ...int) []api.Claim {
	t.Helper()
	got := Claims(d)
	if !slices.Equal(got, pairs(want...)) {
		t.Errorf("Claims = %v, not %v: %+v", got, pairs(want...), d)
	}
	return got
}

func checkOwner(t *testing.T, l []api.Claim, n, want int) {
	t.Helper()
	if got := Owner(l, n); got != want {
		t.Errorf("Owner(%v, %d) = %d, not %d", l, n, got, want)
	}
}

func checkUp(t *testing.T, d api.Doc, l []api.Claim, n, want int) {
	t.Helper()
	if got := Up(d, l, n); got != want {
		t.Errorf("Up(%v, %d) = %d, not %d", l, n, got, want)
	}
}

func checkKids(t *testing.T, d api.Doc, l []api.Claim, n int, want ...int) {
	t.Helper()
	if got := Kids(d, l, n); !slices.Equal(got, want) {
		t.Errorf("Kids(%v, %d) = %v, not %v", l, n, got, want)
	}
}

// rule answers numbers below n, one after the other, always the same ones.
func rule(state uint64) func(n int) int {
	return func(n int) int {
		state = state*6364136223846793005 + 1442695040888963407
		return int(state>>33) % n
	}
}

// grown is a document with shadow trees, with ids that several have, and with many that own others.
func grown(next func(n int) int) api.Doc {
	kinds := []int{api.ChgMake, api.ChgMake, api.ChgMake, api.ChgText, api.ChgMove, api.ChgMakeS, api.ChgShadow, api.ChgAttr, api.ChgAttr, api.ChgAttr, api.ChgAttr}
	tags := []string{"slot", "p", "div", "x-a"}
	ids := []string{"a", "b", "c", "d", "e", "f", "g", "h"}
	d := dom.New()
	for range 40 + next(160) {
		x := api.Change{Kind: kinds[next(len(kinds))], Node: max(next(len(d)), next(len(d))), To: next(len(d)), Before: -1, Name: tags[next(len(tags))]}
		switch {
		case x.Kind == api.ChgAttr && next(3) == 0:
			x.Name, x.Value = "aria-owns", ids[next(len(ids))]
			for range next(4) {
				x.Value += " \t"[next(2):][:1] + ids[next(len(ids))]
			}
		case x.Kind == api.ChgAttr:
			x.Name, x.Value = "id", ids[next(len(ids))]
		case x.Kind == api.ChgMove && next(5) == 0:
			x.Kind = api.ChgRemove
		}
		if y, _, err := dom.Apply(d, x); err == api.OK {
			d = y
		}
	}
	return d
}

func sameNode(a, b api.Node) bool {
	return a.Live == b.Live && a.Tag == b.Tag && a.Text == b.Text && a.Up == b.Up && a.HasS == b.HasS && a.InS == b.InS &&
		slices.Equal(a.Attrs, b.Attrs) && slices.Equal(a.Kids, b.Kids) && slices.Equal(a.Shadow, b.Shadow)
}

func same(a, b api.Doc) bool { return slices.EqualFunc(a, b, sameNode) }

// roomy is d with room behind each of its lists, in which stands what would be told if it were looked at.
func roomy(d api.Doc) api.Doc {
	ints := func(l []int) []int { return append(append(make([]int, 0, len(l)+2), l...), 1, 2)[:len(l)] }
	var out api.Doc
	for _, n := range d {
		n.Attrs = append(append([]api.Attr(nil), n.Attrs...), api.Attr{Name: "aria-owns", Value: "a b c d e f g h"})[:len(n.Attrs)]
		n.Kids, n.Shadow = ints(n.Kids), ints(n.Shadow)
		out = append(out, n)
	}
	return append(out, api.Node{Live: true, Tag: "p", Up: 0, Attrs: []api.Attr{{Name: "id", Value: "a"}}})[:len(d)]
}

// whole is d with the room behind each of its lists.
func whole(d api.Doc) api.Doc {
	out := dom.Own(d[:len(d)+1])
	for i, n := range d {
		out[i].Attrs = slices.Clone(n.Attrs[:len(n.Attrs)+1])
		out[i].Kids = slices.Clone(n.Kids[:len(n.Kids)+2])
		out[i].Shadow = slices.Clone(n.Shadow[:len(n.Shadow)+2])
	}
	return out
}

// roomyClaims is l with room behind it, in which each node of d is claimed by the root.
func roomyClaims(d api.Doc, l []api.Claim) []api.Claim {
	out := slices.Clone(l)
	for n := range d {
		out = append(out, api.Claim{Owner: 0, Kid: n})
	}
	return out[:len(l)]
}

// spoil writes into a list, and into the room behind it.
func spoil[T any](l []T, with T) {
	l = l[:cap(l)]
	for i := range l {
		l[i] = with
	}
}
