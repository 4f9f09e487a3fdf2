package ends

import (
	"maps"
	"slices"
	"strings"

	"sluice/api"
	"sluice/blocks"
)

// Open opens a stream, and answers its number.
func (e *End) Open(l []api.Header, last bool) (int, api.Errno) {
	switch {
	case e.isDead():
		return 0, api.ErrDead
	case !blocks.IsList(l):
		return 0, api.ErrList
	case e.openHere() >= api.MaxOpen || e.going.next > api.MaxStream:
		return 0, api.ErrMany
	}
	s := &stream{number: e.going.next, heads: copyOf(l), last: last}
	e.going.next += 2
	e.streams.add(s)
	return s.number, api.OK
}

// copyOf copies the texts too, since what is handed in is not kept.
func copyOf(l []api.Header) []api.Header {
	c := make([]api.Header, len(l))
	for i, h := range l {
		c[i] = api.Header{Name: strings.Clone(h.Name), Value: strings.Clone(h.Value)}
	}
	return c
}

// Write lays down bytes to be sent, and answers how many of them.
func (e *End) Write(number int, b []byte) (int, api.Errno) {
	s, err := e.writable(number)
	if err != api.OK {
		return 0, err
	}
	n := min(len(b), api.MaxWait-len(s.waiting))
	s.waiting = append(s.waiting, b[:n]...)
	return n, api.OK
}

// Close says that nothing more is written.
func (e *End) Close(number int) api.Errno {
	s, err := e.writable(number)
	if err != api.OK {
		return err
	}
	s.shut = true
	return api.OK
}

// writable answers the stream of this number, or why it can't be written on.
func (e *End) writable(number int) (*stream, api.Errno) {
	s := e.streams.known[number]
	switch {
	case e.isDead():
		return nil, api.ErrDead
	case s == nil:
		return nil, api.ErrStream
	case s.isReset():
		return nil, api.ErrReset
	case s.last || s.shut:
		return nil, api.ErrEnded
	}
	return s, api.OK
}

// Read takes bytes that have come, at most n, and tells whether there will be no more.
func (e *End) Read(number int, n int) ([]byte, bool, api.Errno) {
	s := e.streams.known[number]
	switch {
	case n < 0:
		return nil, false, api.ErrArg
	case s == nil:
		return nil, false, api.ErrStream
	case s.isReset():
		return nil, false, api.ErrReset
	case e.isDead() && !s.hasAll && len(s.unread) == 0:
		return nil, false, api.ErrDead
	}
	b := cut(&s.unread, n)
	s.owed += len(b)
	e.account.owed += len(b)
	return b, s.hasAll && len(s.unread) == 0, api.OK
}

// Reset gives a stream up.
func (e *End) Reset(number int) api.Errno {
	s := e.streams.known[number]
	switch {
	case e.isDead():
		return api.ErrDead
	case s == nil:
		return api.ErrStream
	case s.isReset():
		return api.ErrReset
	case s.isClosed():
		return api.ErrEnded
	}
	e.reset(s, byCall)
	// The other end has never heard of a stream that was not announced.
	if s.announced {
		e.going.resets = append(e.going.resets, number)
	}
	return api.OK
}

// Set tells the initial window that is wanted.
func (e *End) Set(initial int) api.Errno {
	switch {
	case e.isDead():
		return api.ErrDead
	case !isWithin(initial, 0):
		return api.ErrArg
	}
	e.initial.wanted = initial
	return api.OK
}

// Tick lets the clock go on.
func (e *End) Tick(n int) api.Errno {
	if n < 0 || n > api.MaxClock-e.clock {
		return api.ErrArg
	}
	e.clock += n
	return api.OK
}

// Streams tells the numbers of all streams that are known.
func (e *End) Streams() []int { return slices.Sorted(maps.Keys(e.streams.known)) }

// Heads tells a stream's pairs.
func (e *End) Heads(number int) ([]api.Header, api.Errno) {
	s := e.streams.known[number]
	if s == nil {
		return nil, api.ErrStream
	}
	return slices.Clone(s.heads), api.OK
}

// Windows tells the send and the receive window of a stream, or with 0 of the connection.
func (e *End) Windows(number int) (int, int, api.Errno) {
	if number == 0 {
		return e.account.send, e.account.receive, api.OK
	}
	s := e.streams.known[number]
	if s == nil {
		return 0, 0, api.ErrStream
	}
	return e.sendWindow(s), e.receiveWindow(s), api.OK
}
