package wire

import (
	"bytes"
	"strconv"

	"townreader/api"
)

func Parse(b []byte) ([]api.Event, api.Errno) {
	r := reader{rest: b}
	var l []api.Event
	for len(r.rest) > 0 {
		l = append(l, r.event())
	}
	if r.bad {
		return nil, api.ErrForm
	}
	return l, api.OK
}

// reader has what is still to be read. Once something is not as it must be, it is bad, and nothing is left to read.
type reader struct {
	rest []byte
	bad  bool
}

func (r *reader) fail() {
	r.bad = true
	r.rest = nil
}

func (r *reader) event() api.Event {
	var e api.Event
	e.Kind = r.number()
	e.Node = r.number()
	e.To = r.number()
	e.At = r.number()
	e.Item = r.item(0)
	return e
}

// item reads one that has so many items above it.
func (r *reader) item(above int) api.Item {
	var it api.Item
	if above > api.MaxNodes {
		r.fail()
		return it
	}
	it.Node = r.number()
	it.Role = r.number()
	it.Level = r.number()
	it.Checked = r.number()
	it.Off = r.flag()
	it.Name = r.text()
	it.About = r.text()
	it.Kids = r.items(above + 1)
	return it
}

// items makes no room ahead for as many as there should be: the number may be greater than what follows it.
func (r *reader) items(above int) []api.Item {
	var l []api.Item
	for range r.count() {
		if r.bad {
			return nil
		}
		l = append(l, r.item(above))
	}
	return l
}

// number takes only what Bytes writes: no sign or nought that is not needed, and nothing that is greater than an int.
func (r *reader) number() int {
	written, rest, ends := bytes.Cut(r.rest, []byte{' '})
	n, err := strconv.Atoi(string(written))
	if !ends || err != nil || strconv.Itoa(n) != string(written) {
		r.fail()
		return 0
	}
	r.rest = rest
	return n
}

func (r *reader) count() int {
	n := r.number()
	if n < 0 {
		r.fail()
		return 0
	}
	return n
}

func (r *reader) flag() bool {
	n := r.number()
	if n != 0 && n != 1 {
		r.fail()
	}
	return n == 1
}

func (r *reader) text() string {
	n := r.count()
	if n > len(r.rest) {
		r.fail()
		return ""
	}
	s := string(r.rest[:n])
	r.rest = r.rest[n:]
	return s
}
