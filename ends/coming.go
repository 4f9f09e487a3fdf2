package ends

import (
	"sluice/api"
	"sluice/frames"
)

// Feed takes in bytes of the other end, up to a Goaway. With a fault it gives up by panic, and what came ahead of that is done; it is for the caller to let the end die then.
func (e *End) Feed(b []byte) {
	for _, c := range b {
		if e.isDead() {
			return
		}
		e.take(c)
	}
}

func (e *End) take(c byte) {
	if e.coming.greeted < len(greeting) {
		if c != greeting[e.coming.greeted] {
			panic(api.FaultForm)
		}
		e.coming.greeted++
		return
	}
	if f, ended := e.coming.reader.Take(c); ended {
		e.come(f)
	}
}

// come does what a frame does. Whatever it is a fault by is found ahead of all that it changes.
func (e *End) come(f frames.Frame) {
	e.checkTurn(f)
	e.coming.begun = true
	switch f := f.(type) {
	case frames.Data:
		e.comeData(f)
	case frames.Headers:
		e.comeHeaders(f)
	case frames.Continue:
		e.comePiece(e.coming.block, f.Piece, f.Has(api.Last))
	case frames.Reset:
		e.comeReset(f)
	case frames.Settings:
		e.comeSettings(f)
	case frames.Ping:
		e.comePing(f)
	case frames.Goaway:
		e.Die(api.ErrDead)
	case frames.Credit:
		e.comeCredit(f)
	case frames.Other:
		// It means nothing, but must not come out of turn either.
	}
}

// checkTurn gives up by panic if no frame of this kind may come now.
func (e *End) checkTurn(f frames.Frame) {
	if !e.coming.begun && !opensTalk(f) {
		panic(api.FaultOrder)
	}
	if goesOn(f) != e.coming.block.stream {
		panic(api.FaultOrder)
	}
}

func opensTalk(f frames.Frame) bool {
	s, ok := f.(frames.Settings)
	return ok && !s.Has(api.Ack)
}

// goesOn tells the stream whose block the frame goes on with: 0, which is none, if it is no Continue.
func goesOn(f frames.Frame) int {
	if c, ok := f.(frames.Continue); ok {
		return c.Stream
	}
	return 0
}

func (e *End) comeHeaders(f frames.Headers) {
	if e.opens(f.Stream) || f.Stream <= e.coming.newest || e.openThere() >= api.MaxOpen {
		panic(api.FaultOrder)
	}
	e.comePiece(block{stream: f.Stream, last: f.Has(api.End)}, f.Piece, f.Has(api.Last))
}

// comePiece adds one more piece to a block; with the last one the stream is known.
func (e *End) comePiece(b block, piece []byte, last bool) {
	b.bytes = append(b.bytes, piece...)
	if len(b.bytes) > api.MaxBlock {
		panic(api.FaultHeader)
	}
	if !last {
		e.coming.block = b
		return
	}
	heads := e.coming.unpacker.Unpack(b.bytes)
	e.coming.block = block{}
	e.coming.newest = b.stream
	e.streams.add(&stream{number: b.stream, heads: heads, announced: true, hasAll: b.last})
}

// announced answers the stream of a frame, and gives up by panic if it is not announced.
func (e *End) announced(number int) *stream {
	s := e.streams.known[number]
	if s == nil || !s.announced {
		panic(api.FaultOrder)
	}
	return s
}

func (e *End) comeData(f frames.Data) {
	s := e.announced(f.Stream)
	if s.hasAll || s.reset == byFrame {
		panic(api.FaultOrder)
	}
	n := len(f.Body)
	if n >= 1 && (n > e.account.receive || !s.isReset() && n > e.receiveWindow(s)) {
		panic(api.FaultFlow)
	}
	e.account.receive -= n
	e.tuner.count(n)
	if s.isReset() {
		// The other end may not have heard of the reset yet: nobody reads this, so it is owed at once.
		e.account.owed += n
		return
	}
	e.keep(s, f)
}

// keep lays down the content of Data to be read. What pads it is never read, so it is owed at once.
func (e *End) keep(s *stream, f frames.Data) {
	padding := len(f.Body) - len(f.Content)
	s.receive -= len(f.Body)
	s.owed += padding
	e.account.owed += padding
	s.unread = append(s.unread, f.Content...)
	s.hasAll = f.Has(api.End)
	e.streams.settle(s)
}

func (e *End) comeReset(f frames.Reset) {
	if s := e.announced(f.Stream); !s.isClosed() {
		e.reset(s, byFrame)
	}
}

func (e *End) comeSettings(f frames.Settings) {
	if f.Has(api.Ack) {
		e.comeAck()
		return
	}
	for _, s := range e.streams.known {
		checkWindow(f.Number + s.send)
	}
	e.answer(api.Frame{Kind: api.Settings, Flags: api.Ack})
	e.initial.other = f.Number
}

func (e *End) comeAck() {
	if !e.initial.waits {
		panic(api.FaultOrder)
	}
	e.initial.waits = false
	e.initial.own = e.initial.made
}

func (e *End) comePing(f frames.Ping) {
	if f.Has(api.Ack) {
		e.account.owed += e.tuner.answer(f.Number, e.clock)
		return
	}
	e.answer(api.Frame{Kind: api.Ping, Flags: api.Ack, Body: f.Body})
}

// answer lays down a frame that answers another, and gives up by panic if too many wait.
func (e *End) answer(f api.Frame) {
	if len(e.going.answers) >= api.MaxAnswers {
		panic(api.FaultCalm)
	}
	e.going.answers = append(e.going.answers, f)
}

func (e *End) comeCredit(f frames.Credit) {
	if f.Stream == 0 {
		checkWindow(e.account.send + f.Number)
		e.account.send += f.Number
		return
	}
	s := e.announced(f.Stream)
	if s.isReset() {
		return
	}
	checkWindow(e.sendWindow(s) + f.Number)
	s.send += f.Number
}

// checkWindow gives up by panic if no send window may be so great.
func checkWindow(n int) {
	if n > api.MaxNumber {
		panic(api.FaultFlow)
	}
}
