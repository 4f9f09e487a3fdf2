package sluice_test

import (
	"bytes"
	"slices"
	"testing"

	"sluice/api"
)

// carried is what the tasks of a play did of one stream in one direction.
type carried struct {
	taken, read []byte
	last        bool // Last was told
	shut        bool // nothing more is written
}

// carriedOf gathers what was written of a stream at one end, and read at the other.
func carriedOf(script []api.Step, l []api.Done, writer, stream int) carried {
	var c carried
	for i, s := range script {
		d := l[i]
		switch {
		case s.Kind == api.DoOpen && s.End == writer && d.N == stream && d.Err == api.OK:
			c.shut = c.shut || s.Last
		case s.Stream != stream:
		case s.Kind == api.DoWrite && s.End == writer:
			c.taken = append(c.taken, s.Bytes[:d.N]...)
		case s.Kind == api.DoClose && s.End == writer:
			c.shut = c.shut || d.Err == api.OK
		case s.Kind == api.DoRead && s.End == 1-writer:
			c.read = append(c.read, d.Bytes...)
			c.last = c.last || d.Last
		}
	}
	return c
}

// openedWith answers the pairs with which each stream was opened.
func openedWith(script []api.Step, l []api.Done) map[int]list {
	m := map[int]list{}
	for i, s := range script {
		if s.Kind == api.DoOpen && l[i].Err == api.OK {
			m[l[i].N] = s.Heads
		}
	}
	return m
}

// wantCarried asks what P20 says of a play without DoRaw.
func wantCarried(t *testing.T, script []api.Step, l []api.Done) {
	t.Helper()
	streams := openedWith(script, l)
	for i, s := range script {
		d := l[i]
		if d.Err == api.ErrDead || d.Err >= api.FaultForm {
			t.Errorf("P20: an end is dead: step %d, %+v: %+v", i, s, d)
		}
		if pairs := streams[s.Stream]; s.Kind == api.DoHeads && d.Err == api.OK && !slices.Equal(d.Heads, pairs) {
			t.Errorf("P20: step %d: stream %d has the pairs %q, want %q", i, s.Stream, d.Heads, pairs)
		}
	}
	for stream := range streams {
		for writer := range 2 {
			c := carriedOf(script, l, writer, stream)
			if !bytes.HasPrefix(c.taken, c.read) {
				t.Errorf("P20: of stream %d of end %d came %q, but %q was written", stream, writer, c.read, c.taken)
			}
			if c.last && (!c.shut || len(c.read) != len(c.taken)) {
				t.Errorf("P20: of stream %d of end %d Last was told behind %d bytes of %d, closed %v", stream, writer, len(c.read), len(c.taken), c.shut)
			}
		}
	}
}

func TestPlayCarries(t *testing.T) {
	r := &author{Rand: chance()}
	bytes, lasts, heads := 0, 0, 0
	for round := range 1500 {
		a, b := anyConfig(r.Rand), anyConfig(r.Rand)
		script := r.script(20+r.IntN(400), false)
		l := playAny(t, a, b, script)
		wantCarried(t, script, l)
		if t.Failed() {
			t.Fatalf("round %d, %+v, %+v", round, a, b)
		}
		for _, d := range l {
			bytes += len(d.Bytes)
			heads += len(d.Heads)
			if d.Last {
				lasts++
			}
		}
	}
	if bytes < 100000 || lasts < 100 || heads < 100 {
		t.Errorf("too little went over: %d bytes, %d ends, %d pairs", bytes, lasts, heads)
	}
}

// journey is a play in which all is read, and what is made is moved again and again.
type journey struct {
	*author
	script []api.Step
	length int // all bytes that are to be written
}

func (j *journey) add(l ...api.Step) { j.script = append(j.script, l...) }

// move moves what is made: all of it, or in pieces of any length.
func (j *journey) move(pieces bool) {
	for end := range 2 {
		put, move := all, all
		if pieces {
			put, move = j.IntN(80), j.IntN(80)
		}
		j.add(doPut(end, put), doMove(end, move))
	}
}

// begin lets tasks begin that write on a stream and read it at the other end.
func (j *journey) begin(stream, writer int, closes bool) {
	for range 1 + j.IntN(3) {
		b := anyBytes(j.Rand, j.IntN(1+j.IntN(400)))
		j.length += len(b)
		j.add(doWrite(writer, stream, string(b)))
	}
	if closes {
		j.add(doClose(writer, stream))
	}
	for range j.IntN(4) {
		j.add(doRead(1-writer, stream, j.IntN(40)))
	}
	j.add(doRead(1-writer, stream, all))
}

// newJourney makes a play with so many streams of each end.
func newJourney(r *author, streams int) *journey {
	j := &journey{author: r}
	for range streams {
		for end := range 2 {
			j.add(doOpen(end, anyList(r.Rand)...))
		}
	}
	j.move(false)
	for i := range streams {
		for writer := range 2 {
			j.begin(2*i+1, writer, r.IntN(3) > 0)
			j.begin(2*i+2, writer, r.IntN(3) > 0)
		}
	}
	return j
}

// finish moves till all must have come over: with each round a byte of each stream at least.
func (j *journey) finish() {
	for i := range j.length + 300 {
		if j.IntN(10) == 0 && i < j.length {
			j.add(doSet(j.IntN(2), 1+j.IntN(40)))
		}
		if j.IntN(4) == 0 {
			j.add(doTick(j.IntN(2), j.IntN(4)))
		}
		j.move(i < j.length && j.IntN(3) > 0)
	}
}

// wantArrived asks what P21 says of a journey.
func wantArrived(t *testing.T, script []api.Step, l []api.Done) {
	t.Helper()
	for i, s := range script {
		if d := l[i]; s.Kind == api.DoWrite && (d.N != len(s.Bytes) || d.Err != api.OK) {
			t.Errorf("P21: step %d: %d bytes were taken of %d, %d", i, d.N, len(s.Bytes), d.Err)
		}
	}
	for stream := range openedWith(script, l) {
		for writer := range 2 {
			c := carriedOf(script, l, writer, stream)
			if !bytes.Equal(c.read, c.taken) || c.last != c.shut {
				t.Errorf("P21: of stream %d of end %d came %d bytes of %d, Last %v, closed %v", stream, writer, len(c.read), len(c.taken), c.last, c.shut)
			}
		}
	}
}

func TestPlayArrives(t *testing.T) {
	r := &author{Rand: chance()}
	for round := range 60 {
		j := newJourney(r, 1+round%4)
		j.finish()
		a, b := anyConfig(r.Rand), anyConfig(r.Rand)
		a.Initial, b.Initial = max(1, a.Initial), max(1, b.Initial)
		if round%5 == 0 {
			a.Initial, a.Batch, b.Initial, b.Batch = 1, 1000, 1, 1000
		}
		l := playAny(t, a, b, j.script)
		wantCarried(t, j.script, l)
		wantArrived(t, j.script, l)
		if t.Failed() {
			t.Fatalf("round %d, %+v, %+v", round, a, b)
		}
	}
}

// Streams are opened, used and closed one after the other, far more than may be open at one time.
func TestPlayManyStreams(t *testing.T) {
	r := &author{Rand: chance()}
	j := &journey{author: r}
	for i := range 300 {
		s := i + 1 // the ends open one each in turn
		j.add(doOpen(i%2, anyList(r.Rand)...))
		j.move(false)
		j.add(doHeads(1-i%2, s))
		for writer := range 2 {
			j.begin(s, writer, true)
		}
		for range 100 {
			j.move(false)
		}
	}
	l := playAny(t, plain(), api.Config{Initial: 20, Conn: 40, Batch: 9, Cap: 200}, j.script)
	wantCarried(t, j.script, l)
	wantArrived(t, j.script, l)
	if n := len(openedWith(j.script, l)); n != 300 {
		t.Errorf("P19: %d streams were opened, want 300", n)
	}
}

// tuneWatch asks what P22 says of an end, again and again.
type tuneWatch struct {
	*watched
	target int
	pings  int
}

func (w *tuneWatch) look() {
	w.t.Helper()
	wantTuned(w.t, w.watched)
	u := w.m.tuner()
	if u.target < w.target || u.target > w.m.c.Cap {
		w.t.Errorf("P22: the target was %d and is %d, Cap is %d", w.target, u.target, w.m.c.Cap)
	}
	if answers := len(w.m.of[0].acks(came, api.Ping)); u.pings > answers+1 {
		w.t.Errorf("P22: %d Pings were made, %d have an answer", u.pings, answers)
	}
	w.target, w.pings = u.target, u.pings
}

// Plays are held against the plain player with watched ends, of which P22 is asked behind every step.
func TestPlayTuned(t *testing.T) {
	r := &author{Rand: chance()}
	grown, pings := 0, 0
	for round := range 150 {
		a, b := anyConfig(r.Rand), anyConfig(r.Rand)
		a.Cap, b.Cap = 1000, min(1000, 2*b.Conn)
		v, w := &tuneWatch{watched: watch(t, true, a)}, &tuneWatch{watched: watch(t, false, b)}
		script := r.script(200, false)
		want := tell(v.watched, w.watched, script, func() { v.look(); w.look() })
		wantDones(t, script, playAny(t, a, b, script), want)
		if t.Failed() {
			t.Fatalf("round %d, %+v, %+v", round, a, b)
		}
		grown += v.target - a.Conn + w.target - b.Conn
		pings += v.pings + w.pings
	}
	if grown == 0 || pings < 10 {
		t.Errorf("too little was tuned: %d Pings, grown by %d", pings, grown)
	}
}

// P22 by what a play tells: with nothing read, no more than Cap comes over, and the Ping of a probe is made once.
func TestPlayUpToCap(t *testing.T) {
	wantPlayOf(t, plain(), api.Config{Initial: 1000, Conn: 32, Batch: 1, Cap: 100}, []scene{
		{doOpen(0), api.Done{Step: 0, N: 1}},
		{doPut(1, all), api.Done{Step: 1, N: 10}},
		{doMove(1, all), api.Done{Step: 2, N: 10}},
		{doWrite(0, 1, text(500)), api.Done{Step: 29, N: 200, Err: api.ErrCut}},
		{doPut(0, all), api.Done{Step: 4, N: 7 + 10 + 6 + 6 + (6 + 32)}},
		{doMove(0, all), api.Done{Step: 5, N: 67}},
		{doPut(1, all), api.Done{Step: 6, N: 6 + 10}}, // an answer, and the Ping
		{doPut(1, all), api.Done{Step: 7}},
		{doMove(1, all), api.Done{Step: 8, N: 16}},
		{doPut(0, all), api.Done{Step: 9, N: 10}}, // its answer
		{doTick(1, 10), api.Done{Step: 10}},
		{doMove(0, all), api.Done{Step: 11, N: 10}}, // 32 in 10 ticks: the target is 64
		{doPut(1, all), api.Done{Step: 12, N: 10}},  // the Credit for that
		{doMove(1, all), api.Done{Step: 13, N: 10}},
		{doPut(0, all), api.Done{Step: 14, N: 6 + 32}},
		{doMove(0, all), api.Done{Step: 15, N: 38}},
		{doPut(1, all), api.Done{Step: 16, N: 10}}, // the second Ping
		{doMove(1, all), api.Done{Step: 17, N: 10}},
		{doPut(0, all), api.Done{Step: 18, N: 10}},
		{doMove(0, all), api.Done{Step: 19, N: 10}}, // 32 in a tick: the target would be 128
		{doPut(1, all), api.Done{Step: 20, N: 10}},
		{doMove(1, all), api.Done{Step: 21, N: 10}},
		{doPut(0, all), api.Done{Step: 22, N: 6 + 36}},
		{doMove(0, all), api.Done{Step: 23, N: 42}},
		{doPut(1, all), api.Done{Step: 24}}, // no probe, no credit
		{doPut(0, all), api.Done{Step: 25}},
		{doRead(1, 1, 100), api.Done{Step: 26, Bytes: []byte(text(100))}},
		{doPut(1, all), api.Done{Step: 27, N: 10 + 10}},
		{doMove(1, all), api.Done{Step: 28, N: 20}},
	})
}
