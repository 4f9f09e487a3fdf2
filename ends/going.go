package ends

import (
	"sluice/api"
	"sluice/frames"
)

// Take takes bytes for the other end, at most n, and makes as many frames as it needs for that.
func (e *End) Take(n int) []byte {
	more := true
	for more && len(e.going.made) < n {
		more = e.makeNext()
	}
	return cut(&e.going.made, n)
}

// makeNext makes the next frame, the first of these that there is, and tells whether there was one.
func (e *End) makeNext() bool {
	if e.isDead() {
		return e.makeGoaway()
	}
	return e.makeFirst() ||
		e.makeAnswer() ||
		e.makeSettings() ||
		e.makePing() ||
		e.makeCredit() ||
		e.makeStreamCredit() ||
		e.makeReset() ||
		e.makeHeaders() ||
		e.makeData()
}

func (e *End) put(f api.Frame) {
	if e.going.greets {
		e.going.made = append(e.going.made, greeting...)
		e.going.greets = false
	}
	e.going.made = append(e.going.made, frames.Bytes(f)...)
}

func (e *End) makeGoaway() bool {
	if e.fault == api.ErrDead || e.going.parted {
		return false
	}
	e.going.parted = true
	e.put(api.Frame{Kind: api.Goaway, Body: []byte{byte(e.fault)}})
	return true
}

func (e *End) makeFirst() bool {
	if e.initial.told {
		return false
	}
	e.putSettings()
	return true
}

func (e *End) putSettings() {
	e.initial.told = true
	e.initial.made = e.initial.wanted
	e.initial.waits = true
	e.put(api.Frame{Kind: api.Settings, Body: frames.Number(uint32(e.initial.made))})
}

func (e *End) makeAnswer() bool {
	if len(e.going.answers) == 0 {
		return false
	}
	e.put(e.going.answers[0])
	e.going.answers = e.going.answers[1:]
	return true
}

func (e *End) makeSettings() bool {
	if e.initial.waits || e.initial.wanted == e.initial.made {
		return false
	}
	e.putSettings()
	return true
}

func (e *End) makePing() bool {
	n, ok := e.tuner.ping(e.clock)
	if ok {
		e.put(api.Frame{Kind: api.Ping, Body: frames.Number(n)})
	}
	return ok
}

func (e *End) makeCredit() bool {
	if !isDue(e.account.owed, e.account.receive, e.batch) {
		return false
	}
	e.putCredit(0, &e.account)
	return true
}

func (e *End) makeStreamCredit() bool {
	for _, s := range e.streams.open {
		if !s.hasAll && isDue(s.owed, e.receiveWindow(s), e.batch) {
			e.putCredit(s.number, &s.account)
			return true
		}
	}
	return false
}

func (e *End) putCredit(number int, a *account) {
	e.put(api.Frame{Kind: api.Credit, Stream: number, Body: frames.Number(uint32(a.grant()))})
}

func (e *End) makeReset() bool {
	if len(e.going.resets) == 0 {
		return false
	}
	e.put(api.Frame{Kind: api.Reset, Stream: e.going.resets[0], Body: []byte{0}})
	e.going.resets = e.going.resets[1:]
	return true
}

func (e *End) makeHeaders() bool {
	for _, s := range e.streams.open {
		if !s.announced {
			e.announce(s)
			return true
		}
	}
	return false
}

// announce makes all the frames of a stream's block.
func (e *End) announce(s *stream) {
	b := e.going.packer.Pack(s.heads)
	f := api.Frame{Kind: api.Headers, Stream: s.number}
	if s.last {
		f.Flags = api.End
	}
	for len(b) > api.MaxBody {
		f.Body = b[:api.MaxBody]
		e.put(f)
		b = b[api.MaxBody:]
		f = api.Frame{Kind: api.Continue, Stream: s.number}
	}
	f.Flags |= api.Last
	f.Body = b
	e.put(f)
	s.announced = true
	s.sentAll = s.last
}

func (e *End) makeData() bool {
	s := e.nextToSend()
	if s == nil {
		return false
	}
	n := min(api.MaxBody, e.sendWindow(s), e.account.send)
	f := api.Frame{Kind: api.Data, Stream: s.number, Body: cut(&s.waiting, n)}
	s.send -= len(f.Body)
	e.account.send -= len(f.Body)
	if len(s.waiting) == 0 && s.shut {
		f.Flags = api.End
		s.sentAll = true
		e.streams.settle(s)
	}
	e.put(f)
	e.going.lastData = s.number
	return true
}

// nextToSend answers the stream whose turn it is: they take turns in the order of their numbers, round and round.
func (e *End) nextToSend() *stream {
	var least *stream
	for _, s := range e.streams.open {
		if !e.hasData(s) {
			continue
		}
		if s.number > e.going.lastData {
			return s
		}
		if least == nil {
			least = s
		}
	}
	return least
}

// hasData tells whether Data is to be made for a stream that is not reset. The last Data, if it carries nothing, needs no window.
func (e *End) hasData(s *stream) bool {
	if !s.announced || s.sentAll {
		return false
	}
	if len(s.waiting) == 0 {
		return s.shut
	}
	return e.sendWindow(s) >= 1 && e.account.send >= 1
}
