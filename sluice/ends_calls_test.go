package sluice_test

import (
	"math"
	"slices"
	"strings"
	"testing"

	"sluice/api"
	"sluice/sluice"
)

func TestNewEndBounds(t *testing.T) {
	for _, c := range []struct {
		config api.Config
		want   api.Errno
	}{
		{api.Config{Initial: 0, Conn: 32, Batch: 1, Cap: 32}, api.OK},
		{api.Config{Initial: 1000, Conn: 1000, Batch: 1000, Cap: 1000}, api.OK},
		{api.Config{Initial: 0, Conn: 32, Batch: 1000, Cap: 1000}, api.OK},
		{api.Config{Initial: 1000, Conn: 500, Batch: 1, Cap: 500}, api.OK},
		{api.Config{Initial: -1, Conn: 32, Batch: 1, Cap: 32}, api.ErrArg},
		{api.Config{Initial: 1001, Conn: 32, Batch: 1, Cap: 32}, api.ErrArg},
		{api.Config{Initial: 5, Conn: 31, Batch: 1, Cap: 32}, api.ErrArg},
		{api.Config{Initial: 5, Conn: 1001, Batch: 1, Cap: 1001}, api.ErrArg},
		{api.Config{Initial: 5, Conn: 1001, Batch: 1, Cap: 1000}, api.ErrArg},
		{api.Config{Initial: 5, Conn: 32, Batch: 0, Cap: 32}, api.ErrArg},
		{api.Config{Initial: 5, Conn: 32, Batch: 1001, Cap: 32}, api.ErrArg},
		{api.Config{Initial: 5, Conn: 32, Batch: 1, Cap: 31}, api.ErrArg},
		{api.Config{Initial: 5, Conn: 32, Batch: 1, Cap: 1001}, api.ErrArg},
		{api.Config{Initial: 5, Conn: 500, Batch: 1, Cap: 499}, api.ErrArg},
		{api.Config{}, api.ErrArg},
		{api.Config{Initial: math.MinInt, Conn: 32, Batch: 1, Cap: 32}, api.ErrArg},
		{api.Config{Initial: 5, Conn: math.MaxInt, Batch: 1, Cap: math.MaxInt}, api.ErrArg},
		{api.Config{Initial: 5, Conn: math.MinInt, Batch: 1, Cap: 32}, api.ErrArg},
		{api.Config{Initial: 5, Conn: 32, Batch: math.MinInt, Cap: 32}, api.ErrArg},
		{api.Config{Initial: 5, Conn: 32, Batch: 1, Cap: math.MaxInt}, api.ErrArg},
	} {
		for _, first := range []bool{false, true} {
			if e, err := sluice.NewEnd(first, c.config); err != c.want || (e == nil) != (err != api.OK) {
				t.Errorf("P9: NewEnd(%v, %+v) = %v, %d, want %d", first, c.config, e, err, c.want)
			}
		}
	}
}

func TestNewEndKnowsNothing(t *testing.T) {
	for _, first := range []bool{false, true} {
		w := watch(t, first, api.Config{Initial: 7, Conn: 99, Batch: 2, Cap: 200})
		if l := w.e.Streams(); len(l) != 0 {
			t.Errorf("P9: Streams() = %v", l)
		}
		w.windows(0, 32, 32)
		w.look()
		if e := w.Tick(1000000); e != api.OK {
			t.Errorf("P9: the clock is not 0: Tick = %d", e)
		}
	}
}

// situation is what a stream has come to at an end that is not first, and which errors the calls answer then. of makes it, and answers the stream's number.
type situation struct {
	name               string
	of                 func(w *watched) int
	write, read, reset api.Errno
	readDead           api.Errno // Read, if the end is dead
}

func situations() []situation {
	const ok, stream, ended, reset, dead = api.OK, api.ErrStream, api.ErrEnded, api.ErrReset, api.ErrDead
	open := func(last bool) func(w *watched) int {
		return func(w *watched) int { return w.opens(list{h("path", "/")}, last, 2) }
	}
	then := func(of func(w *watched) int, steps ...func(w *watched, s int)) func(w *watched) int {
		return func(w *watched) int {
			s := of(w)
			for _, step := range steps {
				step(w, s)
			}
			return s
		}
	}
	there := func(flags int) func(w *watched) int {
		return func(w *watched) int { w.feeds(ok, headers(1, flags, 0x81)); return 1 }
	}
	take := func(w *watched, s int) { w.Take(all) }
	write := func(w *watched, s int) { w.writes(s, "some", 4) }
	shuts := func(w *watched, s int) { w.closes(s) }
	drops := func(w *watched, s int) { w.drops(s) }
	gets := func(w *watched, s int) { w.feeds(ok, data(s, "hello")) }
	getsLast := func(w *watched, s int) { w.feeds(ok, lastData(s, "")) }
	getsReset := func(w *watched, s int) { w.feeds(ok, resets(s)) }
	return []situation{
		{"not known", func(w *watched) int { return 9 }, stream, stream, stream, stream},
		{"not known, 0", func(w *watched) int { return 0 }, stream, stream, stream, stream},
		{"not known, below 0", func(w *watched) int { return -1 }, stream, stream, stream, stream},
		{"block not at its end", func(w *watched) int { w.feeds(ok, headers(1, 0)); return 1 }, stream, stream, stream, stream},
		{"opened here, not announced", open(false), ok, ok, ok, dead},
		{"opened here", then(open(false), take), ok, ok, ok, dead},
		{"opened here with last, not announced", open(true), ended, ok, ok, dead},
		{"opened here with last", then(open(true), take), ended, ok, ok, dead},
		{"opened here with last, has all", then(open(true), take, getsLast), ended, ok, ended, ok},
		{"Close called, not announced", then(open(false), shuts), ended, ok, ok, dead},
		{"Close called, bytes wait", then(open(false), write, shuts), ended, ok, ok, dead},
		{"sent all", then(open(false), shuts, take), ended, ok, ok, dead},
		{"opened there", there(4), ok, ok, ok, dead},
		{"opened there, unread", then(there(4), gets), ok, ok, ok, ok},
		{"opened there with End", there(5), ok, ok, ok, ok},
		{"opened there, has all, unread", then(there(4), gets, getsLast), ok, ok, ok, ok},
		{"has all", then(there(4), getsLast), ok, ok, ok, ok},
		{"has all, Close called", then(there(4), getsLast, shuts), ended, ok, ok, ok},
		{"sent all and has all", then(there(4), getsLast, shuts, take), ended, ok, ended, ok},
		{"sent all and has all, unread", then(there(4), gets, getsLast, shuts, take), ended, ok, ended, ok},
		{"has all and sent all", then(open(false), shuts, take, getsLast), ended, ok, ended, ok},
		{"closed, and a Reset came", then(there(4), getsLast, shuts, take, getsReset), ended, ok, ended, ok},
		{"reset by a call, not announced", then(open(false), drops), reset, reset, reset, reset},
		{"reset by a call", then(open(false), take, drops), reset, reset, reset, reset},
		{"reset by a call, unread", then(there(4), gets, drops), reset, reset, reset, reset},
		{"reset by a call, has all", then(there(4), getsLast, drops), reset, reset, reset, reset},
		{"Close and Reset called", then(there(4), shuts, drops, take), reset, reset, reset, reset},
		{"opened with last, reset by a call", then(open(true), drops), reset, reset, reset, reset},
		{"reset by a frame", then(open(false), take, getsReset), reset, reset, reset, reset},
		{"opened there, reset by a frame", then(there(4), gets, write, getsReset), reset, reset, reset, reset},
		{"Close called, reset by a frame", then(there(4), shuts, getsReset), reset, reset, reset, reset},
		{"reset by a call, then a Reset came", then(there(4), drops, getsReset), reset, reset, reset, reset},
	}
}

func wantErrors(w *watched, s int, write, read, reset api.Errno) {
	w.t.Helper()
	if n, e := w.e.Write(s, nil); n != 0 || e != write {
		w.t.Errorf("P11: Write(%d) = %d, %d, want 0, %d", s, n, e, write)
	}
	if _, _, e := w.Read(s, 0); e != read {
		w.t.Errorf("P12: Read(%d, 0): %d, want %d", s, e, read)
	}
	if b, last, e := w.e.Read(s, -1); b != nil || last || e != api.ErrArg {
		w.t.Errorf("P12: Read(%d, -1) = %q, %v, %d, want ErrArg", s, b, last, e)
	}
	if write != api.OK {
		if e := w.e.Close(s); e != write {
			w.t.Errorf("P11: Close(%d) = %d, want %d", s, e, write)
		}
	}
	if reset != api.OK {
		if e := w.e.Reset(s); e != reset {
			w.t.Errorf("P13: Reset(%d) = %d, want %d", s, e, reset)
		}
	}
	w.look()
}

// Every call on a stream in every situation: at an end that lives, and at one that is dead.
func TestCallErrors(t *testing.T) {
	for _, c := range situations() {
		t.Run(c.name, func(t *testing.T) {
			w := talking(t, false, plain(), 100)
			s := c.of(w)
			wantErrors(w, s, c.write, c.read, c.reset)
			w.Take(all)
			for _, deadly := range [][]byte{goaway(0), slices.Repeat(ping(1), 9), headers(9, 4, 0xc0), {255, 255, 255, 255, 255, 255}} {
				w := talking(t, false, plain(), 100)
				s := c.of(w)
				w.Feed(deadly)
				if w.e.Fault() == api.OK {
					t.Fatal("the end is not dead")
				}
				wantErrors(w, s, api.ErrDead, c.readDead, api.ErrDead)
				w.Take(all)
				wantErrors(w, s, api.ErrDead, c.readDead, api.ErrDead)
			}
			if c.write == api.OK {
				w := talking(t, false, plain(), 100)
				w.closes(c.of(w))
				w.Take(all)
			}
			if c.reset == api.OK {
				w := talking(t, false, plain(), 100)
				w.drops(c.of(w))
				w.Take(all)
			}
		})
	}
}

func wantOpenError(w *watched, l list, want api.Errno) {
	w.t.Helper()
	for _, last := range []bool{false, true} {
		if s, e := w.Open(l, last); s != 0 || e != want {
			w.t.Errorf("P10: Open(%q, %v) = %d, %d, want 0, %d", l, last, s, e, want)
		}
	}
	w.look()
}

func TestOpenErrors(t *testing.T) {
	wrong := []list{{h("", "")}, {h("", "x")}, {h(xs(41), "")}, {h("x", xs(41))}, {h("path", "/"), h("", "")}, slices.Repeat(list{h("path", "/")}, 9), make(list, 1000)}
	w := talking(t, true, plain(), 100)
	for _, l := range wrong {
		wantOpenError(w, l, api.ErrList)
	}
	for i := range 4 {
		w.opens(slices.Repeat(list{h(xs(40), xs(40))}, 2*i), false, 2*i+1)
	}
	wantOpenError(w, nil, api.ErrMany)
	for _, l := range wrong {
		wantOpenError(w, l, api.ErrList)
	}
	w.feeds(api.ErrDead, goaway(1))
	for _, l := range append(wrong, nil) {
		wantOpenError(w, l, api.ErrDead)
	}
	w = talking(t, false, plain(), 100)
	w.feeds(api.FaultOrder, heard())
	wantOpenError(w, nil, api.ErrDead)
	wantOpenError(w, wrong[0], api.ErrDead)
}

// Which streams count: those that were opened here and are not closed.
func TestOpenMany(t *testing.T) {
	fill := func() *watched {
		w := talking(t, false, plain(), 100)
		w.feeds(api.OK, headers(1, 4), headers(3, 4))
		for i := 2; i <= 8; i += 2 {
			w.opens(nil, i == 4, i)
		}
		wantOpenError(w, nil, api.ErrMany)
		w.Take(all)
		wantOpenError(w, nil, api.ErrMany)
		return w
	}
	w := fill()
	w.drops(1)
	w.feeds(api.OK, resets(3))
	wantOpenError(w, nil, api.ErrMany)
	w.closes(2)
	w.Take(all)
	wantOpenError(w, nil, api.ErrMany) // it has sent all of 2
	w.feeds(api.OK, lastData(6, ""))
	wantOpenError(w, nil, api.ErrMany) // it has all of 6
	w.feeds(api.OK, lastData(2, "ab"))
	w.opens(nil, false, 10) // though 2 is not read
	wantOpenError(w, nil, api.ErrMany)
	w.feeds(api.OK, lastData(4, ""))
	w.opens(nil, false, 12) // it was opened with last
	wantOpenError(w, nil, api.ErrMany)
	w.closes(6)
	wantOpenError(w, nil, api.ErrMany) // End was not made yet
	w.Take(all)
	w.opens(nil, false, 14)
	w.feeds(api.OK, resets(8))
	w.opens(nil, false, 16)
	w.drops(16)
	w.opens(nil, false, 18)
	wantOpenError(w, nil, api.ErrMany)
	w.Take(all)
	w.look()
}

func TestOpenNumbers(t *testing.T) {
	for _, c := range []struct {
		first bool
		from  int
		to    int
	}{{true, 1, 32767}, {false, 2, 32766}} {
		e := newEnd(t, c.first, plain())
		for i := c.from; i <= c.to; i += 2 {
			if s, err := e.Open(nil, i%3 == 0); s != i || err != api.OK {
				t.Fatalf("P10: Open = %d, %d, want %d", s, err, i)
			}
			if i < c.to {
				e.Reset(i)
			}
		}
		for range 2 {
			if s, err := e.Open(nil, false); s != 0 || err != api.ErrMany {
				t.Errorf("P10: Open = %d, %d, though no number is left", s, err)
			}
			if s, err := e.Open(make(list, 9), false); s != 0 || err != api.ErrList {
				t.Errorf("P10: Open of no list = %d, %d", s, err)
			}
			e.Reset(c.to)
		}
		if l := e.Streams(); len(l) != (c.to-c.from)/2+1 || !slices.IsSorted(l) || l[0] != c.from || l[len(l)-1] != c.to {
			t.Errorf("P18: Streams() has %d", len(l))
		}
	}
}

func TestWriteWaits(t *testing.T) {
	w := talking(t, true, plain(), 60)
	w.opens(nil, false, 1)
	w.writes(1, "", 0)
	w.writes(1, xs(99), 99)
	w.writes(1, "yz", 1)
	w.writes(1, "z", 0)
	w.takes(headers(1, 4), data(1, xs(32)))
	w.writes(1, strings.Repeat("w", 33), 32) // 68 wait
	w.feeds(api.OK, credit(0, 1000), credit(1, 1000))
	w.takes(data(1, xs(64)), data(1, xs(3)+"y"+strings.Repeat("w", 32)))
	w.writes(1, strings.Repeat("v", 1<<20), 100)
	w.closes(1)
	w.takes(data(1, strings.Repeat("v", 64)), lastData(1, strings.Repeat("v", 36)))
	w.opens(nil, false, 3)
	w.writes(3, xs(100), 100)
	w.drops(3)
	w.takes()
}

func TestReadUpToEnd(t *testing.T) {
	w := talking(t, false, plain(), 60)
	w.feeds(api.OK, headers(1, 4))
	w.reads(1, 0, "", false)
	w.reads(1, all, "", false)
	w.feeds(api.OK, data(1, "abc"), padded(1, 2, "de"), data(1, ""), padded(1, 0, ""), data(1, "f"))
	w.reads(1, 0, "", false)
	w.reads(1, 1, "a", false)
	w.reads(1, 3, "bcd", false)
	w.feeds(api.OK, data(1, "g"))
	w.reads(1, math.MaxInt, "efg", false)
	w.feeds(api.OK, data(1, "hi"), oneFrame(api.Data, api.End|api.Padded, 1, 1, 'j', 0))
	w.reads(1, 2, "hi", false)
	w.reads(1, 0, "", false)
	w.reads(1, 1, "j", true)
	w.reads(1, 0, "", true)
	w.reads(1, 9, "", true)
	w.feeds(api.OK, headers(3, 5))
	w.reads(3, 0, "", true)
}

// A dead end gives what it has.
func TestReadDead(t *testing.T) {
	for _, last := range [][]byte{goaway(3), heard()} {
		w := talking(t, false, plain(), 60)
		w.feeds(api.OK, headers(1, 4), headers(3, 4), headers(5, 4))
		w.Feed(join(data(1, "abc"), lastData(3, "de"), lastData(5, ""), last, data(1, "f")))
		w.reads(1, 0, "", false)
		w.reads(1, 2, "ab", false)
		w.reads(1, 2, "c", false)
		for _, n := range []int{0, 1} {
			if b, l, e := w.Read(1, n); b != nil || l || e != api.ErrDead {
				t.Errorf("P12: Read(1, %d) = %q, %v, %d", n, b, l, e)
			}
		}
		w.reads(3, 1, "d", false)
		w.reads(3, 1, "e", true)
		w.reads(3, 1, "", true)
		w.reads(5, 1, "", true)
		w.look()
	}
}

// What is read of one stream is not taken of another.
func TestReadApart(t *testing.T) {
	w := talking(t, false, plain(), 60)
	w.feeds(api.OK, headers(1, 4), headers(3, 4), data(1, "ab"), data(3, "cd"), data(1, "ef"), data(3, "gh"))
	w.reads(3, 3, "cdg", false)
	w.reads(1, 9, "abef", false)
	w.reads(3, 9, "h", false)
}

// A Reset drops what is unread and what waits, and gives the connection back what was unread.
func TestResetDrops(t *testing.T) {
	for _, byFrame := range []bool{false, true} {
		w := talking(t, false, api.Config{Initial: 32, Conn: 32, Batch: 6, Cap: 32}, 0)
		w.feeds(api.OK, headers(1, 4), headers(3, 4), data(1, "abcdefgh"), data(3, "i"))
		w.reads(1, 3, "abc", false)
		w.writes(1, "waits", 5)
		w.takes()
		want := join(credit(0, 8), resets(1)) // 3 that were read, 5 that were not
		if byFrame {
			w.feeds(api.OK, resets(1))
			want = credit(0, 8)
		} else {
			w.drops(1)
		}
		w.takes(want)
		w.feeds(api.OK, settings(1000))
		w.takes(heard())
		w.windows(0, 32, 31)
		w.windows(1, 1000, 24)
		w.reads(3, 5, "i", false)
		if b, l, e := w.Read(1, 5); b != nil || l || e != api.ErrReset {
			t.Errorf("P12: Read = %q, %v, %d", b, l, e)
		}
	}
}

// Reset of what was not announced says nothing to the other end, now and later; its number is not used again.
func TestResetUnannounced(t *testing.T) {
	w := talking(t, true, plain(), 60)
	w.opens(nil, false, 1)
	w.opens(list{h("host", "eat")}, true, 3)
	w.writes(1, "abc", 3)
	w.drops(1)
	w.takes(headers(3, 5, 0x47, 0x82, 0x02, 0x1f))
	w.opens(list{h("host", "eat")}, false, 5)
	w.drops(3)
	w.takes(resets(3), headers(5, 4, 0x89))
	w.feeds(api.FaultOrder, resets(1))
}

func TestSet(t *testing.T) {
	w := watch(t, true, plain())
	for _, n := range []int{-1, 1001, math.MinInt, math.MaxInt} {
		if e := w.Set(n); e != api.ErrArg {
			t.Errorf("P13: Set(%d) = %d", n, e)
		}
	}
	for _, n := range []int{1000, 0, 9} {
		if e := w.Set(n); e != api.OK {
			t.Errorf("P13: Set(%d) = %d", n, e)
		}
	}
	w.takes([]byte(greets), settings(9))
	w.Set(10)
	w.takes()
	w.feeds(api.OK, settings(60))
	w.takes(heard())
	w.feeds(api.OK, heard())
	w.windows(0, 32, 32)
	w.Set(9)
	w.takes() // it is what was made last
	w.Set(0)
	w.Set(1000)
	w.takes(settings(1000))
	w.feeds(api.OK, heard())
	w.takes()
	w.feeds(api.FaultOrder, heard())
	for _, n := range []int{-1, 5} {
		if e := w.Set(n); e != api.ErrDead {
			t.Errorf("P13: Set(%d) of a dead end = %d", n, e)
		}
	}
}

func TestTick(t *testing.T) {
	w := talking(t, true, plain(), 60)
	tick := func(n int, want api.Errno) {
		t.Helper()
		if e := w.Tick(n); e != want {
			t.Errorf("P13: Tick(%d) = %d, want %d", n, e, want)
		}
	}
	tick(1000001, api.ErrArg)
	tick(math.MaxInt, api.ErrArg)
	tick(-1, api.ErrArg)
	tick(math.MinInt, api.ErrArg)
	tick(0, api.OK)
	tick(999999, api.OK)
	tick(2, api.ErrArg)
	w.feeds(api.ErrDead, goaway(0))
	tick(math.MaxInt, api.ErrArg)
	tick(2, api.ErrArg)
	tick(1, api.OK)
	tick(0, api.OK)
	tick(1, api.ErrArg)
	tick(-1, api.ErrArg)
}

// Numbers of any size, at ends that live and that are dead: each call ends, and does as its story says.
func TestAnyNumbers(t *testing.T) {
	r := chance()
	for range 200 {
		w := talking(t, r.IntN(2) == 0, anyConfig(r), r.IntN(100))
		w.Open(nil, false)
		w.Feed(headers(1+r.IntN(2), 4))
		for range 20 {
			s, n := anyNumber(r), anyNumber(r)
			if r.IntN(2) == 0 {
				s = r.IntN(3)
			}
			w.Read(s, n)
			w.Write(s, anyBytes(r, r.IntN(200)))
			w.Close(anyNumber(r))
			w.Reset(anyNumber(r))
			w.Set(n)
			w.Tick(n)
			w.Take(n)
			w.lookAt(s)
		}
		w.look()
	}
}
