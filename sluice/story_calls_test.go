package sluice_test

import (
	"slices"

	"sluice/api"
)

func (m *story) open(l list, last bool) (int, api.Errno) {
	s := 2 + 2*len(m.streams(true, false))
	if m.first {
		s--
	}
	wrong := func(p api.Header) bool { return p.Name == "" || len(p.Name) > 40 || len(p.Value) > 40 }
	switch {
	case m.fault != api.OK:
		return 0, api.ErrDead
	case len(l) > 8 || slices.ContainsFunc(l, wrong):
		return 0, api.ErrList
	case m.countOpen(true) >= 4 || s > 32767:
		return 0, api.ErrMany
	}
	m.tell(event{what: opened, stream: s, heads: slices.Clone(l), last: last})
	return s, api.OK
}

func (m *story) openedWithLast(s int) bool {
	return slices.ContainsFunc(m.of[s], func(e *event) bool { return e.what == opened && e.last })
}

func (m *story) writeError(s int) api.Errno {
	switch {
	case m.fault != api.OK:
		return api.ErrDead
	case !m.isKnown(s):
		return api.ErrStream
	case m.isReset(s):
		return api.ErrReset
	case m.openedWithLast(s) || m.of[s].has(shut):
		return api.ErrEnded
	}
	return api.OK
}

func (m *story) write(s int, b []byte) (int, api.Errno) {
	if e := m.writeError(s); e != api.OK {
		return 0, e
	}
	n := min(len(b), 100-len(m.waiting(s)))
	m.tell(event{what: wrote, stream: s, bytes: slices.Clone(b[:n])})
	return n, api.OK
}

func (m *story) close(s int) api.Errno {
	if e := m.writeError(s); e != api.OK {
		return e
	}
	m.tell(event{what: shut, stream: s})
	return api.OK
}

func (m *story) read(s, n int) ([]byte, bool, api.Errno) {
	switch {
	case n < 0:
		return nil, false, api.ErrArg
	case !m.isKnown(s):
		return nil, false, api.ErrStream
	case m.isReset(s):
		return nil, false, api.ErrReset
	case m.fault != api.OK && !m.hasAll(s) && len(m.unread(s)) == 0:
		return nil, false, api.ErrDead
	}
	b := m.unread(s)
	b = b[:min(n, len(b))]
	m.tell(event{what: read, stream: s, n: len(b)})
	return b, m.hasAll(s) && len(m.unread(s)) == 0, api.OK
}

func (m *story) reset(s int) api.Errno {
	switch {
	case m.fault != api.OK:
		return api.ErrDead
	case !m.isKnown(s):
		return api.ErrStream
	case m.isReset(s):
		return api.ErrReset
	case m.isClosed(s):
		return api.ErrEnded
	}
	m.tell(event{what: dropped, stream: s})
	return api.OK
}

func (m *story) set(n int) api.Errno {
	switch {
	case m.fault != api.OK:
		return api.ErrDead
	case n < 0 || n > 1000:
		return api.ErrArg
	}
	m.tell(event{what: wished, n: n})
	return api.OK
}

func (m *story) tick(n int) api.Errno {
	if n < 0 || n > 1000000 || m.clock()+n > 1000000 {
		return api.ErrArg
	}
	m.tell(event{what: ticked, n: n})
	return api.OK
}

func (m *story) heads(s int) (list, api.Errno) {
	for _, e := range m.log {
		if (e.what == opened || e.what == met) && e.stream == s {
			return e.heads, api.OK
		}
	}
	return nil, api.ErrStream
}

func (m *story) windows(s int) (int, int, api.Errno) {
	if s != 0 && !m.isKnown(s) {
		return 0, 0, api.ErrStream
	}
	return m.sendWindow(s), m.receiveWindow(s), api.OK
}
