// Package ends: one end of a connection, what it makes and what comes to it.
package ends

import (
	"sluice/api"
	"sluice/blocks"
	"sluice/frames"
)

// greeting stands ahead of the first frame of the end that is first.
const greeting = "sluice\n"

// End is one end of a connection.
type End struct {
	first   bool
	fault   api.Errno // OK as long as it lives
	clock   int
	batch   int
	account account // the connection's
	initial initial
	tuner   tuner
	streams streams
	coming  coming
	going   going
}

// coming is what is kept of the bytes that came.
type coming struct {
	greeted  int // how many of the greeting's bytes came
	reader   frames.Reader
	begun    bool // the first frame came
	block    block
	newest   int // the greatest number of a stream that the other end opened
	unpacker blocks.Unpacker
}

// block is one whose last piece did not come yet. Its stream is 0 if there is none.
type block struct {
	stream int
	bytes  []byte
	last   bool // its Headers had the flag End
}

// going is what is kept for the bytes that go.
type going struct {
	greets   bool   // the greeting is still to be made
	parted   bool   // a Goaway was made
	made     []byte // and not taken
	answers  []api.Frame
	resets   []int // the streams for which a Reset is to be made
	next     int   // the number of the stream that is opened next
	lastData int   // the stream for which Data was made last
	packer   blocks.Packer
}

// ConfigFits tells whether there may be an end of this configuration.
func ConfigFits(c api.Config) bool {
	return isWithin(c.Initial, 0) && isWithin(c.Conn, api.Window) && isWithin(c.Batch, 1) && isWithin(c.Cap, c.Conn)
}

func isWithin(n, least int) bool { return n >= least && n <= api.MaxCredit }

// New makes an end of a configuration that fits.
func New(first bool, c api.Config) End {
	e := End{
		first:   first,
		batch:   c.Batch,
		account: account{send: api.Window, receive: api.Window, owed: c.Conn - api.Window},
		initial: initial{wanted: c.Initial, own: api.Window, other: api.Window},
		tuner:   newTuner(c.Conn, c.Cap),
		streams: newStreams(),
		coming:  coming{unpacker: blocks.NewUnpacker(api.Table)},
		going:   going{next: 2, packer: blocks.NewPacker(api.Table)},
	}
	if first {
		e.coming.greeted = len(greeting)
		e.going.greets = true
		e.going.next = 1
	}
	return e
}

// Fault tells why the end is dead, and OK if it is not.
func (e *End) Fault() api.Errno { return e.fault }

// Die makes the end dead: by a fault, or by ErrDead if a Goaway came.
func (e *End) Die(fault api.Errno) {
	e.fault = fault
	// Nothing more is read, and nothing but a Goaway is made: what was kept for that goes.
	e.coming = coming{}
	e.going = going{greets: e.going.greets, made: e.going.made}
	for _, s := range e.streams.open {
		s.waiting = nil
	}
}

func (e *End) isDead() bool { return e.fault != api.OK }

// opens tells whether streams of this number are opened here.
func (e *End) opens(number int) bool { return (number%2 == 1) == e.first }

// openHere is how many streams that were opened here are not closed, openThere of those that the other end opened.
func (e *End) openHere() (n int) {
	for _, s := range e.streams.open {
		if e.opens(s.number) {
			n++
		}
	}
	return n
}

func (e *End) openThere() int { return len(e.streams.open) - e.openHere() }

func (e *End) sendWindow(s *stream) int { return e.initial.other + s.send }

func (e *End) receiveWindow(s *stream) int { return e.initial.own + s.receive }

// reset drops what is unread or waits. The other end has spent its credit on what was unread, so it is owed to the connection.
func (e *End) reset(s *stream, by resetBy) {
	s.reset = by
	e.account.owed += len(s.unread)
	s.unread, s.waiting = nil, nil
	e.streams.settle(s)
}
