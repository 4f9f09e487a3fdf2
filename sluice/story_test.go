package sluice_test

import (
	"math/big"
	"slices"

	"sluice/api"
	"sluice/sluice"
)

// story is the document's section 'Ends' once more, as plainly as can be: all that happened to an end stands in a log, and everything else is worked out of that again and again, by the document's words.
type story struct {
	first    bool
	c        api.Config
	log      events
	of       map[int]events // what of the log is about a stream
	fault    api.Errno
	greeting string         // what of it is still to come
	reader   *sluice.Reader // has tests of its own
	packer   *model
	unpacker *model
	made     []byte // all bytes that were made
	taken    int    // how many of them were taken
}

// event is one thing that happened. Which fields it has depends on what it was.
type event struct {
	what   string // see below
	stream int
	n      int
	last   bool
	bytes  []byte
	heads  list
	frame  api.Frame
}

const (
	opened  = "opened"
	wrote   = "wrote"
	shut    = "shut" // Close was called
	read    = "read"
	dropped = "dropped" // Reset was called
	wished  = "wished"  // Set was called
	ticked  = "ticked"
	made    = "made"    // a frame was made
	came    = "came"    // a frame came
	met     = "met"     // a block came to its end
	gaveUp  = "gave up" // a Reset came for a stream that was not closed
)

type events []*event

func newStory(first bool, c api.Config) *story {
	m := &story{first: first, c: c, of: map[int]events{}, reader: sluice.NewReader(), packer: newModel(128), unpacker: newModel(128)}
	if !first {
		m.greeting = "sluice\n"
	}
	return m
}

func (m *story) tell(e event) {
	m.log = append(m.log, &e)
	m.of[e.stream] = append(m.of[e.stream], &e)
}

// has tells whether one of these things happened.
func (l events) has(what ...string) bool {
	return slices.ContainsFunc(l, func(e *event) bool { return slices.Contains(what, e.what) })
}

// frames are those of a kind that came or were made, without Ack where that has a meaning.
func (l events) frames(what string, kind int) []api.Frame {
	var fs []api.Frame
	for _, e := range l {
		if e.what == what && e.frame.Kind == kind && !isAck(e.frame) {
			fs = append(fs, e.frame)
		}
	}
	return fs
}

// acks are those with Ack.
func (l events) acks(what string, kind int) []api.Frame {
	var fs []api.Frame
	for _, e := range l {
		if e.what == what && e.frame.Kind == kind && isAck(e.frame) {
			fs = append(fs, e.frame)
		}
	}
	return fs
}

func isAck(f api.Frame) bool {
	return (f.Kind == api.Settings || f.Kind == api.Ping) && f.Flags%2 == 1
}

// total adds up what the frames of a kind count.
func (l events) total(what string, kind int, count func(api.Frame) int) int {
	n := 0
	for _, e := range l {
		if e.what == what && e.frame.Kind == kind {
			n += count(e.frame)
		}
	}
	return n
}

// live is what happened of a stream till it was reset.
func (m *story) live(s int) events {
	l := m.of[s]
	if i := slices.IndexFunc(l, func(e *event) bool { return e.what == dropped || e.what == gaveUp }); i >= 0 {
		return l[:i]
	}
	return l
}

func (m *story) isReset(s int) bool { return m.of[s].has(dropped, gaveUp) }

func (m *story) isKnown(s int) bool { return m.of[s].has(opened, met) }

func (l events) announced() bool { return l.has(met) || len(l.frames(made, api.Headers)) > 0 }

func (m *story) isAnnounced(s int) bool { return m.of[s].announced() }

func (m *story) sentAll(s int) bool {
	return slices.ContainsFunc(m.of[s], func(e *event) bool {
		return e.what == made && (e.frame.Kind == api.Data || e.frame.Kind == api.Headers) && e.frame.Flags%2 == 1
	})
}

func (m *story) hasAll(s int) bool {
	return slices.ContainsFunc(m.live(s), func(e *event) bool {
		return e.what == met && e.last || e.what == came && e.frame.Kind == api.Data && e.frame.Flags%2 == 1
	})
}

func (m *story) isClosed(s int) bool { return m.isReset(s) || m.sentAll(s) && m.hasAll(s) }

// streams are all numbers of streams that are known, rising; those that were opened here or there, if asked.
func (m *story) streams(here, there bool) []int {
	var l []int
	for _, e := range m.log {
		if e.what == opened && here || e.what == met && there {
			l = append(l, e.stream)
		}
	}
	slices.Sort(l)
	return l
}

func (m *story) countOpen(here bool) int {
	n := 0
	for _, s := range m.streams(here, !here) {
		if !m.isClosed(s) {
			n++
		}
	}
	return n
}

func numberOf(f api.Frame) int {
	b := f.Body
	return int(b[0])*16777216 + int(b[1])*65536 + int(b[2])*256 + int(b[3])
}

func contentOf(f api.Frame) []byte {
	if f.Flags&8 == 0 {
		return f.Body
	}
	return f.Body[1 : len(f.Body)-int(f.Body[0])]
}

func bodyLength(f api.Frame) int { return len(f.Body) }

func padding(f api.Frame) int { return len(f.Body) - len(contentOf(f)) }

func (m *story) otherInitial() int {
	l := m.of[0].frames(came, api.Settings)
	if len(l) == 0 {
		return 32
	}
	return numberOf(l[len(l)-1])
}

func (m *story) ownInitial() int {
	acks := len(m.of[0].acks(came, api.Settings))
	if acks == 0 {
		return 32
	}
	return numberOf(m.of[0].frames(made, api.Settings)[acks-1])
}

func (m *story) wanted() int {
	n := m.c.Initial
	for _, e := range m.of[0] {
		if e.what == wished {
			n = e.n
		}
	}
	return n
}

func (m *story) sendWindow(s int) int {
	if s == 0 {
		return 32 + m.of[0].total(came, api.Credit, numberOf) - m.log.total(made, api.Data, bodyLength)
	}
	return m.otherInitial() + m.live(s).total(came, api.Credit, numberOf) - m.of[s].total(made, api.Data, bodyLength)
}

func (m *story) receiveWindow(s int) int {
	if s == 0 {
		return 32 + m.of[0].total(made, api.Credit, numberOf) - m.log.total(came, api.Data, bodyLength)
	}
	return m.ownInitial() + m.of[s].total(made, api.Credit, numberOf) - m.live(s).total(came, api.Data, bodyLength)
}

func (m *story) bytesRead(s int) int {
	n := 0
	for _, e := range m.of[s] {
		if e.what == read {
			n += e.n
		}
	}
	return n
}

// content is all that came for a stream while it was not reset.
func (m *story) content(s int) []byte {
	var b []byte
	for _, f := range m.live(s).frames(came, api.Data) {
		b = append(b, contentOf(f)...)
	}
	return b
}

func (m *story) unread(s int) []byte {
	if m.isReset(s) {
		return nil
	}
	return m.content(s)[m.bytesRead(s):]
}

func (m *story) waiting(s int) []byte {
	if m.isReset(s) {
		return nil
	}
	var b []byte
	for _, e := range m.of[s] {
		if e.what == wrote {
			b = append(b, e.bytes...)
		}
	}
	return b[m.of[s].total(made, api.Data, bodyLength):]
}

func (m *story) owed(s int) int {
	return m.bytesRead(s) + m.live(s).total(came, api.Data, padding) - m.of[s].total(made, api.Credit, numberOf)
}

func (m *story) owedOfAll() int {
	n := m.c.Conn - 32 + m.tuner().added - m.of[0].total(made, api.Credit, numberOf)
	for _, s := range m.streams(true, true) {
		n += m.bytesRead(s) + m.live(s).total(came, api.Data, padding)
		if m.isReset(s) {
			n += len(m.content(s)) - m.bytesRead(s)
			n += m.of[s].total(came, api.Data, bodyLength) - m.live(s).total(came, api.Data, bodyLength)
		}
	}
	return n
}

func (m *story) creditDue(owed, window int) bool {
	return owed >= 1 && (owed >= m.c.Batch || window <= 0)
}

// tuning is what the tuner has come to.
type tuning struct {
	target, added, probes, pings int
	underWay                     bool
}

func (m *story) tuner() tuning {
	t := tuning{target: m.c.Conn}
	best := new(big.Rat)
	clock, start, count := 0, 0, 0
	for _, e := range m.log {
		f := e.frame
		switch {
		case e.what == ticked:
			clock += e.n
		case e.what == came && f.Kind == api.Data && t.underWay:
			count += len(f.Body)
		case e.what == came && f.Kind == api.Data && len(f.Body) > 0 && t.target < m.c.Cap:
			t.underWay, count = true, len(f.Body)
			t.probes++
		case e.what == made && f.Kind == api.Ping && !isAck(f):
			start = clock
			t.pings++
		case e.what == came && f.Kind == api.Ping && isAck(f) && t.underWay && t.pings == t.probes && numberOf(f) == t.probes:
			t.underWay = false
			if sample := big.NewRat(int64(count), int64(max(1, clock-start))); sample.Cmp(best) > 0 {
				best = sample
				t.grow(count, m.c.Cap)
			}
		}
	}
	return t
}

func (t *tuning) grow(count, most int) {
	if 2*count >= t.target {
		before := t.target
		t.target = min(2*t.target, most)
		t.added += t.target - before
	}
}

func (m *story) clock() int {
	n := 0
	for _, e := range m.of[0] {
		if e.what == ticked {
			n += e.n
		}
	}
	return n
}

// answers are those that wait.
func (m *story) answers() []api.Frame {
	var l []api.Frame
	for _, e := range m.of[0] {
		switch f := e.frame; {
		case e.what != came || isAck(f):
		case f.Kind == api.Settings:
			l = append(l, api.Frame{Kind: api.Settings, Flags: api.Ack})
		case f.Kind == api.Ping:
			l = append(l, api.Frame{Kind: api.Ping, Flags: api.Ack, Body: f.Body})
		}
	}
	return l[len(m.of[0].acks(made, api.Settings))+len(m.of[0].acks(made, api.Ping)):]
}
