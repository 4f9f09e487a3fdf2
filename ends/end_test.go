package ends

import (
	"testing"

	"sluice/api"
	"sluice/frames"
)

func newEnd() *End {
	e := New(true, api.Config{Initial: 32, Conn: 32, Batch: 1, Cap: 64})
	return &e
}

func bytesOf(kind, flags, stream int, body ...byte) []byte {
	return frames.Bytes(api.Frame{Kind: kind, Flags: flags, Stream: stream, Body: body})
}

// gaveUp answers the value of the panic, if there was one.
func gaveUp(e *End, b []byte) (value any) {
	defer func() { value = recover() }()
	e.Feed(b)
	return nil
}

// A fault that is found deep inside comes up by panic, with itself as the value; what came ahead of it is done.
func TestFeedGivesUp(t *testing.T) {
	begin := append(bytesOf(api.Settings, 0, 0, 0, 0, 0, 9), bytesOf(api.Headers, api.Last, 2)...)
	for _, c := range []struct {
		bytes []byte
		fault api.Errno
	}{
		{bytesOf(api.Reset, 0, 0, 0), api.FaultForm},
		{bytesOf(api.Reset, 0, 1), api.FaultSize},
		{bytesOf(api.Reset, 0, 1, 0), api.FaultOrder},
		{bytesOf(api.Data, 0, 2, make([]byte, 33)...), api.FaultFlow},
		{bytesOf(api.Headers, api.Last, 4, 0x47, 0x82, 2), api.FaultHeader},
	} {
		e := newEnd()
		if v := gaveUp(e, append(begin, c.bytes...)); v != c.fault {
			t.Errorf("%x: %v, want %d", c.bytes, v, c.fault)
		}
		if l := e.Streams(); len(l) != 1 || l[0] != 2 || e.initial.other != 9 {
			t.Errorf("%x: what came ahead is not done: %v, %d", c.bytes, l, e.initial.other)
		}
	}
	if v := gaveUp(newEnd(), append(begin, bytesOf(api.Goaway, 0, 0, 0)...)); v != nil {
		t.Errorf("a Goaway is no fault: %v", v)
	}
}

// A dead end keeps nothing but what it still tells.
func TestDieDrops(t *testing.T) {
	e := newEnd()
	e.Open(nil, false)
	e.Write(1, []byte("waits"))
	e.Feed(bytesOf(api.Settings, 0, 0, 0, 0, 0, 9))
	e.Feed(bytesOf(api.Headers, 0, 2))
	e.Die(api.FaultOrder)
	if len(e.going.answers) != 0 || e.coming.block.stream != 0 || len(e.streams.known[1].waiting) != 0 {
		t.Errorf("%+v, %+v", e.going, e.coming)
	}
}

// What a reset drops is not kept.
func TestResetDropsBytes(t *testing.T) {
	e := newEnd()
	e.Feed(bytesOf(api.Settings, 0, 0, 0, 0, 0, 9))
	e.Feed(bytesOf(api.Headers, api.Last, 2))
	e.Feed(bytesOf(api.Data, 0, 2, 'u'))
	e.Write(2, []byte("waits"))
	e.Reset(2)
	if s := e.streams.known[2]; s.unread != nil || s.waiting != nil {
		t.Errorf("%q and %q are kept", s.unread, s.waiting)
	}
}

// The streams that are not closed are at hand, rising, and no others.
func TestOpenStreams(t *testing.T) {
	l := newStreams()
	for _, n := range []int{5, 2, 9, 4} {
		l.add(&stream{number: n})
	}
	want := func(numbers ...int) {
		t.Helper()
		if len(l.open) != len(numbers) {
			t.Fatalf("%d are open, want %v", len(l.open), numbers)
		}
		for i, s := range l.open {
			if s.number != numbers[i] {
				t.Errorf("%d is open, want %v", s.number, numbers)
			}
		}
	}
	want(2, 4, 5, 9)
	l.known[4].sentAll = true
	l.settle(l.known[4])
	l.known[5].hasAll = true
	l.settle(l.known[5])
	want(2, 4, 5, 9)
	l.known[4].hasAll = true
	l.settle(l.known[4])
	l.known[9].reset = byFrame
	l.settle(l.known[9])
	want(2, 5)
	if len(l.known) != 4 {
		t.Errorf("%d are known", len(l.known))
	}
}

// The count of a probe and its number stay within their bounds, which no talk of an end ever comes near to.
func TestTunerEdges(t *testing.T) {
	u := newTuner(32, 64)
	u.probe.number = 1<<32 - 1
	u.count(5)
	if n, ok := u.ping(0); n != 0 || !ok {
		t.Errorf("behind the last number comes %d, %v", n, ok)
	}
	u.probe.count = api.MaxNumber - 1
	u.count(5)
	if u.probe.count != api.MaxNumber {
		t.Errorf("the count is %d", u.probe.count)
	}
	if n := u.answer(0, api.MaxClock); n != 32 || u.target != 64 {
		t.Errorf("grown by %d to %d", n, u.target)
	}
}

func TestCut(t *testing.T) {
	for _, n := range []int{-5, 0, 1, 3, 4, 1 << 40} {
		b := []byte("abc")
		first := cut(&b, n)
		if k := max(0, min(n, 3)); string(first) != "abc"[:k] || string(b) != "abc"[k:] || cap(first) != k {
			t.Errorf("%d: %q and %q", n, first, b)
		}
	}
}
