package sluice_test

import (
	"math/rand/v2"
	"testing"

	"sluice/api"
)

func anyConfig(r *rand.Rand) api.Config {
	upTo := func(least int) int {
		if r.IntN(3) == 0 {
			return least + r.IntN(1001-least)
		}
		return least + r.IntN(min(60, 1001-least))
	}
	c := api.Config{Initial: upTo(0), Conn: upTo(32), Batch: upTo(1)}
	c.Cap = upTo(c.Conn)
	if r.IntN(3) == 0 {
		c.Batch = 1 + r.IntN(3)
	}
	return c
}

// oneOf is one of the streams that are known, or one that may not be.
func oneOf(r *rand.Rand, w *watched) int {
	if l := w.m.streams(true, true); len(l) > 0 && r.IntN(10) > 0 {
		return l[max(r.IntN(len(l)), r.IntN(len(l)))]
	}
	return r.IntN(9) - 1
}

// anyCall makes one of the calls, often one that does something.
func anyCall(r *rand.Rand, w *watched) {
	w.t.Helper()
	s := oneOf(r, w)
	switch r.IntN(20) {
	case 0, 1:
		l := anyList(r)
		if r.IntN(20) == 0 {
			l = append(l, h("", ""))
		}
		w.Open(l, r.IntN(4) == 0)
	case 2, 3, 4, 5:
		w.Write(s, anyBytes(r, r.IntN(80)))
	case 6:
		w.Close(s)
	case 7, 8, 9, 10:
		w.Read(s, r.IntN(60)-1)
	case 11:
		if r.IntN(2) == 0 {
			w.Reset(s)
		}
	case 12:
		w.Set(r.IntN(70))
		if r.IntN(10) == 0 {
			w.Set(anyNumber(r))
		}
	case 13:
		w.Tick(r.IntN(5) - 1)
		if r.IntN(20) == 0 {
			w.Tick(anyNumber(r))
		}
	}
}

// pipe is what was taken of one end and not yet fed to the other.
type pipe struct {
	from, to *watched
	bytes    []byte
}

func (p *pipe) move(r *rand.Rand) {
	p.from.t.Helper()
	if r.IntN(2) == 0 {
		p.bytes = append(p.bytes, p.from.Take(r.IntN(200))...)
	}
	n := r.IntN(len(p.bytes) + 1)
	p.to.Feed(p.bytes[:n])
	p.bytes = p.bytes[n:]
}

// Two ends talk, with any calls in between: both do as their stories say, and none ever dies.
func TestAnyTalk(t *testing.T) {
	r := chance()
	for round := range 100 {
		a, b := watch(t, true, anyConfig(r)), watch(t, false, anyConfig(r))
		there, back := &pipe{from: a, to: b}, &pipe{from: b, to: a}
		for range 150 {
			anyCall(r, a)
			anyCall(r, b)
			there.move(r)
			back.move(r)
			if r.IntN(8) == 0 {
				a.look()
				b.look()
			}
			if t.Failed() {
				t.Fatalf("round %d, %+v, %+v", round, a.m.c, b.m.c)
			}
			if a.e.Fault() != api.OK || b.e.Fault() != api.OK {
				t.Fatalf("P20: round %d: an end is dead: %d, %d", round, a.e.Fault(), b.e.Fault())
			}
			wantTuned(t, a)
			wantTuned(t, b)
		}
	}
}

// wantTuned asks what P22 says of what an end has made.
func wantTuned(t *testing.T, w *watched) {
	t.Helper()
	gone := w.m.log.total(came, api.Data, bodyLength) // what was read or dropped: all but what is unread
	for _, s := range w.m.streams(true, true) {
		gone -= len(w.m.unread(s))
	}
	if n := w.m.of[0].total(made, api.Credit, numberOf); n > w.m.c.Cap-32+gone {
		t.Errorf("P22: credit of %d was made, %d were read or dropped, Cap is %d", n, gone, w.m.c.Cap)
	}
}

// likelyFrame is hardly ever one that is a fault, so that an end lives for a while.
func likelyFrame(r *rand.Rand, w *watched, packer *model) []api.Frame {
	for {
		l := anyFrame(r, w, packer)
		switch {
		case r.IntN(150) == 0:
			return l
		case l[0].Kind == api.Headers || l[0].Kind == api.Continue:
			if w.m.countOpen(false) < 4 {
				return l
			}
		case w.m.broken(l[0]) == api.OK:
			return l
		}
	}
}

// anyFrame is one that an end may get: mostly right, and near the edge of what may be.
func anyFrame(r *rand.Rand, w *watched, packer *model) []api.Frame {
	s := oneOf(r, w)
	near := func(n int) int { return max(0, n+r.IntN(4)-2) }
	switch r.IntN(16) {
	case 0, 1, 2, 3, 4, 5:
		n := r.IntN(30)
		if r.IntN(6) == 0 {
			n = near(min(w.m.receiveWindow(0), w.m.receiveWindow(s)))
		}
		return []api.Frame{anyData(r, s, min(n, 64))}
	case 6, 7:
		return anyBlock(r, w, packer)
	case 8:
		if r.IntN(3) > 0 {
			s = 1 // so that the others live
		}
		return []api.Frame{{Kind: api.Reset, Flags: r.IntN(256), Stream: max(1, s), Body: anyBytes(r, 1)}}
	case 9:
		f := api.Frame{Kind: api.Settings, Flags: r.IntN(128) * 2, Body: four(r.IntN(100))}
		if r.IntN(4) == 0 {
			f.Body = four(min(2147483647, near(2147483647-w.m.sendWindow(max(1, s)))))
		}
		return []api.Frame{f}
	case 10:
		return []api.Frame{{Kind: api.Settings, Flags: 1 + r.IntN(128)*2}}
	case 11:
		return []api.Frame{{Kind: api.Ping, Flags: r.IntN(128) * 2, Body: anyBytes(r, 4)}}
	case 12:
		return []api.Frame{{Kind: api.Ping, Flags: 1 + r.IntN(128)*2, Body: four(near(w.m.tuner().probes + 1))}}
	case 13, 14:
		n := 1 + r.IntN(40)
		if r.IntN(10) == 0 {
			n = max(1, min(2147483647, near(2147483647-w.m.sendWindow(max(0, s)))))
		}
		return []api.Frame{{Kind: api.Credit, Flags: r.IntN(256), Stream: max(0, s) * min(1, r.IntN(3)), Body: four(n)}}
	}
	if r.IntN(30) == 0 {
		return []api.Frame{{Kind: api.Goaway, Flags: r.IntN(256), Body: []byte{0}}}
	}
	return []api.Frame{{Kind: 8 + r.IntN(248), Flags: r.IntN(256), Stream: max(0, s), Body: anyBytes(r, r.IntN(64))}}
}

func anyData(r *rand.Rand, s, n int) api.Frame {
	f := api.Frame{Kind: api.Data, Flags: r.IntN(128) * 2, Stream: max(1, s), Body: anyBytes(r, n)}
	if r.IntN(8) == 0 {
		f.Flags++
	}
	f.Flags &^= 8
	if n > 0 && r.IntN(3) == 0 {
		f.Flags |= 8
		p := r.IntN(n)
		f.Body[0] = byte(p)
		clear(f.Body[n-p:])
	}
	return f
}

// anyBlock is a block in frames, and now and then with something wrong.
func anyBlock(r *rand.Rand, w *watched, packer *model) []api.Frame {
	s := 2
	if !w.m.first {
		s = 1
	}
	if l := w.m.streams(false, true); len(l) > 0 {
		s = l[len(l)-1] + 2 + 2*(r.IntN(6)/5)
	}
	if r.IntN(40) == 0 {
		s = max(1, s-r.IntN(4))
	}
	if w.m.countOpen(false) >= 4 {
		return []api.Frame{{Kind: api.Headers, Stream: s}}
	}
	b := packer.pack(nil, anyList(r))
	if r.IntN(60) == 0 {
		b = append(b, anyBytes(r, r.IntN(3))...)
	}
	l := []api.Frame{{Kind: api.Headers, Flags: r.IntN(6) / 5, Stream: s}}
	for {
		n := min(64, len(b))
		if r.IntN(2) == 0 {
			n = r.IntN(n + 1)
		}
		l[len(l)-1].Body, b = b[:n], b[n:]
		if len(b) == 0 && r.IntN(8) > 0 {
			l[len(l)-1].Flags |= 4
			break
		}
		l = append(l, api.Frame{Kind: api.Continue, Flags: r.IntN(256) &^ 4, Stream: s})
	}
	if i := r.IntN(len(l)); r.IntN(50) == 0 {
		l = append(l[:i], l[i+1:]...)
	}
	if len(l) == 0 {
		return []api.Frame{{Kind: 9}}
	}
	return l
}

// An end is fed frames in any order, and some that are wrong: it does as its story says, with every fault too.
func TestAnyFrames(t *testing.T) {
	r := chance()
	faults := map[api.Errno]int{}
	for round := range 600 {
		w := watch(t, r.IntN(2) == 0, anyConfig(r))
		packer, takes := newModel(128), 1+r.IntN(20)
		b := []byte(w.m.greeting)
		if r.IntN(30) > 0 {
			b = append(b, bytesOf(api.Frame{Kind: api.Settings, Body: four(r.IntN(100))})...)
		}
		for range 150 {
			for _, f := range likelyFrame(r, w, packer) {
				b = append(b, bytesOf(f)...)
			}
			if r.IntN(300) == 0 {
				b = append(b, anyBytes(r, r.IntN(20))...)
			}
			n := len(b)
			if r.IntN(10) == 0 {
				n = r.IntN(len(b) + 1)
			}
			w.Feed(b[:n])
			b = b[n:]
			anyCall(r, w)
			if r.IntN(takes) == 0 {
				w.Take(r.IntN(300) - 3)
			}
			if r.IntN(8) == 0 {
				w.look()
			}
			if t.Failed() {
				t.Fatalf("round %d, %+v", round, w.m.c)
			}
		}
		w.look()
		faults[w.e.Fault()]++
	}
	for f := api.FaultForm; f <= api.FaultCalm; f++ {
		if faults[f] == 0 {
			t.Errorf("no end died by fault %d", f)
		}
	}
}

// FuzzEnd feeds any bytes to an end, with calls in between, and holds it against its story.
func FuzzEnd(f *testing.F) {
	f.Add(said(nil), uint64(1), false)
	f.Add(said(data(1, "x"))[len(greets):], uint64(2), true)
	for _, c := range wrongFrames() {
		f.Add(join([]byte(greets), settings(100), known(), c.ahead, c.wrong), uint64(3), false)
	}
	f.Fuzz(func(t *testing.T, b []byte, seed uint64, first bool) {
		r := rand.New(rand.NewPCG(seed, 1))
		w := watch(t, first, anyConfig(r))
		for len(b) > 0 {
			n := r.IntN(min(len(b), 100)) + 1
			w.Feed(b[:n])
			b = b[n:]
			anyCall(r, w)
			w.Take(r.IntN(300) - 100)
		}
		w.look()
	})
}
