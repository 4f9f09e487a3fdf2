package sluice_test

import (
	"slices"

	"sluice/api"
)

// feed is P15.
func (m *story) feed(b []byte) api.Errno {
	for _, c := range b {
		if m.fault != api.OK {
			break
		}
		if m.greeting != "" {
			if c != m.greeting[0] {
				m.fault = api.FaultForm
			}
			m.greeting = m.greeting[1:]
			continue
		}
		l, fault := m.reader.Feed([]byte{c})
		for _, f := range l {
			fault = m.come(f)
		}
		m.fault = fault
	}
	return m.fault
}

// openBlock is the block that is not at its end yet: its frames.
func (m *story) openBlock() []api.Frame {
	var l []api.Frame
	for _, e := range m.log {
		if f := e.frame; e.what == came && (f.Kind == api.Headers || f.Kind == api.Continue) {
			l = append(l, f)
			if f.Flags&4 != 0 {
				l = nil
			}
		}
	}
	return l
}

// come answers the fault that a frame is, ErrDead if it is a Goaway; else it does what it does.
func (m *story) come(f api.Frame) api.Errno {
	fault := m.outOfTurn(f)
	if fault == api.OK {
		fault = m.broken(f)
	}
	if fault != api.OK {
		return fault
	}
	if f.Kind == api.Reset && !m.isClosed(f.Stream) {
		m.tell(event{what: gaveUp, stream: f.Stream})
	}
	m.tell(event{what: came, stream: f.Stream, frame: f})
	return api.OK
}

func (m *story) outOfTurn(f api.Frame) api.Errno {
	if !m.log.has(came) && (f.Kind != api.Settings || f.Flags%2 == 1) {
		return api.FaultOrder
	}
	if l := m.openBlock(); len(l) > 0 {
		if f.Kind != api.Continue || f.Stream != l[0].Stream {
			return api.FaultOrder
		}
	} else if f.Kind == api.Continue {
		return api.FaultOrder
	}
	return api.OK
}

func (m *story) broken(f api.Frame) api.Errno {
	ack := f.Flags%2 == 1
	switch f.Kind {
	case api.Data:
		return m.brokenData(f)
	case api.Headers:
		if m.first != (f.Stream%2 == 0) || slices.ContainsFunc(m.streams(false, true), func(s int) bool { return s >= f.Stream }) || m.countOpen(false) >= 4 {
			return api.FaultOrder
		}
		return m.brokenBlock([]api.Frame{f})
	case api.Continue:
		return m.brokenBlock(append(m.openBlock(), f))
	case api.Reset:
		if !m.isAnnounced(f.Stream) {
			return api.FaultOrder
		}
	case api.Settings:
		if ack && len(m.of[0].acks(came, api.Settings)) == len(m.of[0].frames(made, api.Settings)) {
			return api.FaultOrder
		}
		for _, s := range m.streams(true, true) {
			if !ack && m.sendWindow(s)-m.otherInitial()+numberOf(f) > 2147483647 {
				return api.FaultFlow
			}
		}
		if !ack && len(m.answers()) >= 8 {
			return api.FaultCalm
		}
	case api.Ping:
		if !ack && len(m.answers()) >= 8 {
			return api.FaultCalm
		}
	case api.Goaway:
		return api.ErrDead
	case api.Credit:
		return m.brokenCredit(f)
	}
	return api.OK
}

func (m *story) brokenData(f api.Frame) api.Errno {
	s, n := f.Stream, len(f.Body)
	if !m.isAnnounced(s) || m.hasAll(s) || m.of[s].has(gaveUp) {
		return api.FaultOrder
	}
	if n >= 1 && n > m.receiveWindow(0) {
		return api.FaultFlow
	}
	if n >= 1 && !m.isReset(s) && n > m.receiveWindow(s) {
		return api.FaultFlow
	}
	return api.OK
}

// brokenBlock tells the stream too, if these frames are all of its block.
func (m *story) brokenBlock(l []api.Frame) api.Errno {
	var b []byte
	for _, f := range l {
		b = append(b, f.Body...)
	}
	if len(b) > 700 {
		return api.FaultHeader
	}
	if l[len(l)-1].Flags&4 == 0 {
		return api.OK
	}
	heads, ok := m.unpacker.unpack(b)
	if !ok {
		return api.FaultHeader
	}
	m.tell(event{what: met, stream: l[0].Stream, heads: heads, last: l[0].Flags%2 == 1})
	return api.OK
}

func (m *story) brokenCredit(f api.Frame) api.Errno {
	s := f.Stream
	if s != 0 && !m.isAnnounced(s) {
		return api.FaultOrder
	}
	if s != 0 && m.isReset(s) {
		return api.OK
	}
	if m.sendWindow(s)+numberOf(f) > 2147483647 {
		return api.FaultFlow
	}
	return api.OK
}
