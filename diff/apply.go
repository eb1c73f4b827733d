package diff

import "townreader/api"

func Apply(l []api.Item, es []api.Event) ([]api.Item, api.Fault) {
	s := standing(l)
	for i, e := range es {
		if err := s.take(e); err != api.OK {
			return nil, api.Fault{Err: err, At: i}
		}
	}
	return s.items(top), api.Fault{}
}

// take leaves s as it is, if it refuses e.
func (s *stand) take(e api.Event) api.Errno {
	switch e.Kind {
	case api.EvAll:
		*s = standing([]api.Item{e.Item})
		return api.OK
	case api.EvAdd:
		return s.add(e.Item, e.To, e.At)
	case api.EvMove:
		return s.move(e.Node, e.To, e.At)
	case api.EvRemove:
		return s.remove(e.Node)
	case api.EvTell:
		return s.retell(e.Node, e.Item)
	}
	return api.ErrKind
}

func (s *stand) add(it api.Item, to, at int) api.Errno {
	up, is := s.place(to)
	if !is {
		return api.ErrNone
	}
	if at < 0 || at > len(s.spots[up].kids) {
		return api.ErrRange
	}
	if len(it.Kids) > 0 {
		return api.ErrFit
	}
	if _, taken := s.number[it.Node]; taken {
		return api.ErrName
	}
	s.put(up, at, it)
	return api.OK
}

// move counts places as they are once the item has left its own.
func (s *stand) move(n, to, at int) api.Errno {
	k, is := s.number[n]
	if !is {
		return api.ErrNone
	}
	up, is := s.place(to)
	if !is {
		return api.ErrNone
	}
	if s.within(up, k) {
		return api.ErrLoop
	}
	last := len(s.spots[up].kids)
	if s.spots[k].up == up {
		last--
	}
	if at < 0 || at > last {
		return api.ErrRange
	}
	s.leave(k)
	s.enter(k, up, at)
	return api.OK
}

func (s *stand) remove(n int) api.Errno {
	k, is := s.number[n]
	if !is {
		return api.ErrNone
	}
	s.leave(k)
	s.forget(k)
	return api.OK
}

func (s *stand) forget(k int) {
	delete(s.number, s.spots[k].item.Node)
	for _, kid := range s.spots[k].kids {
		s.forget(kid)
	}
}

func (s *stand) retell(n int, it api.Item) api.Errno {
	k, is := s.number[n]
	if !is {
		return api.ErrNone
	}
	if it.Node != n || len(it.Kids) > 0 {
		return api.ErrFit
	}
	s.spots[k].item = alone(it)
	return api.OK
}
