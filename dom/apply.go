package dom

import (
	"slices"

	"townreader/api"
	"townreader/words"
)

// Apply changes a copy, so that what is refused midway may be left as it is, and forgotten.
func Apply(d api.Doc, x api.Change) (api.Doc, int, api.Errno) {
	if x.Kind < api.ChgMake || x.Kind > api.ChgTextS {
		return nil, 0, api.ErrKind
	}
	if !Is(d, x.Node, false) {
		return nil, 0, api.ErrNone
	}
	next, n, err := change(Own(d), x)
	if err != api.OK {
		return nil, 0, err
	}
	return trim(next), n, api.OK
}

func change(d api.Doc, x api.Change) (api.Doc, int, api.Errno) {
	switch x.Kind {
	case api.ChgMove:
		return d, x.Node, move(d, x)
	case api.ChgRemove:
		return d, x.Node, remove(d, x.Node)
	case api.ChgSay:
		return d, x.Node, say(&d[x.Node], x.Value)
	}
	if !Is(d, x.Node, true) {
		return d, 0, api.ErrFit
	}
	switch x.Kind {
	case api.ChgAttr:
		return d, x.Node, setAttr(&d[x.Node], x.Name, x.Value)
	case api.ChgClear:
		return d, x.Node, clearAttr(&d[x.Node], x.Name)
	case api.ChgShadow:
		return d, x.Node, giveShadow(d, x.Node)
	}
	return add(d, x)
}

func move(d api.Doc, x api.Change) api.Errno {
	switch {
	case x.Node == 0 || !Is(d, x.To, true):
		return api.ErrFit
	case Within(d, x.To, x.Node):
		return api.ErrLoop
	case x.Before == x.Node:
		return api.ErrFit
	}
	takeOut(d, x.Node)
	return put(d, x.Node, x.To, x.Before, false)
}

func remove(d api.Doc, n int) api.Errno {
	if n == 0 {
		return api.ErrFit
	}
	takeOut(d, n)
	for _, k := range All(d, n) {
		d[k] = api.Node{}
	}
	return api.OK
}

func say(n *api.Node, value string) api.Errno {
	if n.Tag != "" || len(value) > api.MaxText {
		return api.ErrFit
	}
	n.Text = value
	return api.OK
}

func setAttr(n *api.Node, name, value string) api.Errno {
	at, has := attrAt(n.Attrs, name)
	switch {
	case !words.Name(name):
		return api.ErrName
	case len(value) > api.MaxText:
		return api.ErrMuch
	case !has && len(n.Attrs) >= api.MaxAttrs:
		return api.ErrMany
	case !has:
		n.Attrs = slices.Insert(n.Attrs, at, api.Attr{Name: name})
	}
	n.Attrs[at].Value = value
	return api.OK
}

func clearAttr(n *api.Node, name string) api.Errno {
	at, has := attrAt(n.Attrs, name)
	if !has {
		return api.ErrNone
	}
	n.Attrs = slices.Delete(n.Attrs, at, at+1)
	return api.OK
}

func giveShadow(d api.Doc, n int) api.Errno {
	if n == 0 || d[n].HasS || d[n].Tag == "slot" {
		return api.ErrFit
	}
	d[n].HasS = true
	return api.OK
}

func add(d api.Doc, x api.Change) (api.Doc, int, api.Errno) {
	made, err := fresh(x)
	if err != api.OK {
		return d, 0, err
	}
	shadow, before := x.Kind == api.ChgMakeS || x.Kind == api.ChgTextS, x.Before
	if shadow {
		before = -1 // a shadow tree is only added to at its end
	}
	if shadow && !d[x.Node].HasS {
		return d, 0, api.ErrFit
	}
	n := firstFree(d)
	if n >= api.MaxNodes {
		return d, 0, api.ErrMany
	}
	if n == len(d) {
		d = append(d, api.Node{})
	}
	d[n] = made
	return d, n, put(d, n, x.Node, before, shadow)
}

// fresh is the node that x makes, not yet in anything.
func fresh(x api.Change) (api.Node, api.Errno) {
	if x.Kind == api.ChgMake || x.Kind == api.ChgMakeS {
		if !words.Name(x.Name) {
			return api.Node{}, api.ErrName
		}
		return api.Node{Live: true, Tag: x.Name}, api.OK
	}
	if len(x.Value) > api.MaxText {
		return api.Node{}, api.ErrMuch
	}
	return api.Node{Live: true, Text: x.Value}, api.OK
}

func firstFree(d api.Doc) int {
	at := slices.IndexFunc(d, func(n api.Node) bool { return !n.Live })
	if at < 0 {
		return len(d)
	}
	return at
}

// put refuses what would be too deep only once it stands there: then Deep itself tells it.
func put(d api.Doc, n, up, before int, shadow bool) api.Errno {
	list := listOf(d, up, shadow)
	at := len(*list)
	if before >= 0 {
		at = slices.Index(*list, before)
	}
	if at < 0 {
		return api.ErrFit
	}
	if len(*list) >= api.MaxKids {
		return api.ErrMany
	}
	*list = slices.Insert(*list, at, n)
	d[n].Up, d[n].InS = up, shadow
	if slices.ContainsFunc(All(d, n), func(k int) bool { return Deep(d, k) > api.MaxDeep }) {
		return api.ErrRange
	}
	return api.OK
}

func takeOut(d api.Doc, n int) {
	list := listOf(d, d[n].Up, d[n].InS)
	*list = slices.DeleteFunc(*list, func(k int) bool { return k == n })
}

func listOf(d api.Doc, n int, shadow bool) *[]int {
	if shadow {
		return &d[n].Shadow
	}
	return &d[n].Kids
}

// trim lets a document end with a node that is Live, so that a number that is free at the end is one more again.
func trim(d api.Doc) api.Doc {
	for len(d) > 0 && !d[len(d)-1].Live {
		d = d[:len(d)-1]
	}
	return d
}
