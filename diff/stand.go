package diff

import (
	"slices"

	"townreader/api"
)

// stand is a tree as it stands between two events. Its items have numbers of their own here, by which they are found and moved without a look at all others; what went keeps its number, and nobody finds it.
type stand struct {
	spots  []spot
	number map[int]int // of a node's item
}

// spot has an item without its Kids, which change by themselves.
type spot struct {
	item api.Item
	up   int
	kids []int
}

// top is in the place of what all items are in: it has no item.
const top = 0

func standing(l []api.Item) stand {
	s := stand{spots: []spot{{up: -1}}, number: map[int]int{}}
	s.fill(top, l)
	return s
}

func (s *stand) fill(up int, l []api.Item) {
	for at, it := range l {
		s.fill(s.put(up, at, it), it.Kids)
	}
}

func (s *stand) put(up, at int, it api.Item) int {
	k := len(s.spots)
	s.spots = append(s.spots, spot{item: alone(it)})
	s.number[it.Node] = k
	s.enter(k, up, at)
	return k
}

// alone is an item without its Kids.
func alone(it api.Item) api.Item {
	it.Kids = nil
	return it
}

func (s *stand) enter(k, up, at int) {
	s.spots[k].up = up
	s.spots[up].kids = slices.Insert(s.spots[up].kids, at, k)
}

func (s *stand) leave(k int) {
	up := &s.spots[s.spots[k].up]
	up.kids = slices.DeleteFunc(up.kids, func(other int) bool { return other == k })
}

func (s *stand) items(up int) []api.Item {
	var l []api.Item
	for _, k := range s.spots[up].kids {
		it := s.spots[k].item
		it.Kids = s.items(k)
		l = append(l, it)
	}
	return l
}

func (s *stand) place(to int) (int, bool) {
	if to < 0 {
		return top, true
	}
	k, is := s.number[to]
	return k, is
}

// isAt: whether the item of node n is in that of node to, at number at.
func (s *stand) isAt(n, to, at int) bool {
	up, is := s.place(to)
	if !is || at >= len(s.spots[up].kids) {
		return false
	}
	return s.spots[s.spots[up].kids[at]].item.Node == n
}

func (s *stand) within(k, in int) bool {
	for k >= 0 && k != in {
		k = s.spots[k].up
	}
	return k == in
}

// needless has the nodes of items that are not wanted, nor anything in them; what is in one of these goes with it, and is left out.
func (s *stand) needless(wanted func(n int) bool) []int {
	var nodes []int
	var look func(k int) bool
	look = func(k int) bool {
		ahead, n := len(nodes), s.spots[k].item.Node
		is := wanted(n)
		for _, kid := range s.spots[k].kids {
			if look(kid) {
				is = true
			}
		}
		if !is {
			nodes = append(nodes[:ahead], n)
		}
		return is
	}
	for _, k := range s.spots[top].kids {
		look(k)
	}
	return nodes
}
