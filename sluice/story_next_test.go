package sluice_test

import (
	"slices"

	"sluice/api"
)

func four(n int) []byte { return []byte{byte(n >> 24), byte(n >> 16), byte(n >> 8), byte(n)} }

// next are the frames that the end makes next: one, but for a block of several pieces.
func (m *story) next() []api.Frame {
	if m.fault != api.OK {
		if m.fault == api.ErrDead || len(m.of[0].frames(made, api.Goaway)) > 0 {
			return nil
		}
		return []api.Frame{{Kind: api.Goaway, Body: []byte{byte(m.fault)}}}
	}
	settings := m.of[0].frames(made, api.Settings)
	if len(settings) == 0 {
		return []api.Frame{{Kind: api.Settings, Body: four(m.wanted())}}
	}
	if l := m.answers(); len(l) > 0 {
		return l[:1]
	}
	if numberOf(settings[len(settings)-1]) != m.wanted() && len(m.of[0].acks(came, api.Settings)) == len(settings) {
		return []api.Frame{{Kind: api.Settings, Body: four(m.wanted())}}
	}
	if t := m.tuner(); t.underWay && t.pings < t.probes {
		return []api.Frame{{Kind: api.Ping, Body: four(t.probes)}}
	}
	if f, ok := m.nextCredit(); ok {
		return []api.Frame{f}
	}
	if f, ok := m.nextReset(); ok {
		return []api.Frame{f}
	}
	for _, e := range m.log {
		if e.what == opened && !m.isReset(e.stream) && !m.isAnnounced(e.stream) {
			return m.nextBlock(e)
		}
	}
	return m.nextData()
}

func (m *story) nextCredit() (api.Frame, bool) {
	if n := m.owedOfAll(); m.creditDue(n, m.receiveWindow(0)) {
		return api.Frame{Kind: api.Credit, Body: four(n)}, true
	}
	for _, s := range m.streams(true, true) {
		if n := m.owed(s); m.creditDue(n, m.receiveWindow(s)) && !m.isReset(s) && !m.hasAll(s) {
			return api.Frame{Kind: api.Credit, Stream: s, Body: four(n)}, true
		}
	}
	return api.Frame{}, false
}

func (m *story) nextReset() (api.Frame, bool) {
	for _, e := range m.log {
		s := e.stream
		if e.what == dropped && m.live(s).announced() && len(m.of[s].frames(made, api.Reset)) == 0 {
			return api.Frame{Kind: api.Reset, Stream: s, Body: []byte{0}}, true
		}
	}
	return api.Frame{}, false
}

func (m *story) nextBlock(e *event) []api.Frame {
	b := m.packer.pack(nil, e.heads)
	l := []api.Frame{{Kind: api.Headers, Stream: e.stream}}
	if e.last {
		l[0].Flags = 1
	}
	for len(b) > 64 {
		l[len(l)-1].Body = b[:64]
		b = b[64:]
		l = append(l, api.Frame{Kind: api.Continue, Stream: e.stream})
	}
	l[len(l)-1].Body = b
	l[len(l)-1].Flags += 4
	return l
}

func (m *story) hasData(s int) bool {
	if !m.isAnnounced(s) || m.isReset(s) || m.sentAll(s) {
		return false
	}
	if len(m.waiting(s)) > 0 {
		return m.sendWindow(s) >= 1 && m.sendWindow(0) >= 1
	}
	return m.of[s].has(shut)
}

func (m *story) nextData() []api.Frame {
	var have []int
	for _, s := range m.streams(true, true) {
		if m.hasData(s) {
			have = append(have, s)
		}
	}
	if len(have) == 0 {
		return nil
	}
	s := have[0]
	if l := m.log.frames(made, api.Data); len(l) > 0 {
		behind := slices.IndexFunc(have, func(s int) bool { return s > l[len(l)-1].Stream })
		s = have[max(0, behind)]
	}
	f := api.Frame{Kind: api.Data, Stream: s}
	if w := m.waiting(s); len(w) > 0 {
		f.Body = w[:min(len(w), 64, m.sendWindow(s), m.sendWindow(0))]
	}
	if len(f.Body) == len(m.waiting(s)) && m.of[s].has(shut) {
		f.Flags = 1
	}
	return []api.Frame{f}
}

// take is P14.
func (m *story) take(n int) []byte {
	for len(m.made)-m.taken < n {
		l := m.next()
		if len(l) == 0 {
			break
		}
		if m.first && len(m.made) == 0 {
			m.made = append(m.made, "sluice\n"...)
		}
		for _, f := range l {
			m.tell(event{what: made, stream: f.Stream, frame: f})
			m.made = append(m.made, bytesOf(f)...)
		}
	}
	b := m.made[m.taken:]
	b = b[:max(0, min(n, len(b)))]
	m.taken += len(b)
	return b
}
