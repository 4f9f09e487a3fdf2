package sluice_test

import (
	"bytes"
	"fmt"
	"slices"
	"strings"
	"testing"

	"sluice/api"
	"sluice/sluice"
)

func TestFeedGreeting(t *testing.T) {
	for i := range len(greets) {
		w := watch(t, false, plain())
		w.feeds(api.OK, []byte(greets[:i]))
		w.feeds(api.FaultForm, []byte{greets[i] ^ 1})
		w.takes(goaway(9))
		w = watch(t, false, plain())
		w.feeds(api.FaultForm, []byte(greets[:i]), []byte{0}, []byte(greets), settings(1))
	}
	w := watch(t, false, plain())
	w.feeds(api.FaultForm, settings(1))
	w = watch(t, true, plain())
	w.feeds(api.FaultSize, []byte(greets)) // the end that is first wants none
	w.takes([]byte(greets), goaway(10))
	w = watch(t, false, plain())
	w.feeds(api.OK)
	w.feeds(api.OK, []byte(greets), settings(1))
}

// wrongFrame is bytes that are a fault for an end that is not first, has made its Settings and heard the other's (100), and then those ahead.
type wrongFrame struct {
	name  string
	ahead []byte
	wrong []byte
	fault api.Errno
}

// known opens the streams 1 (of which 2 bytes came), 3 (of which all came) and 5 (reset by a frame); 2 was opened here.
func known() []byte {
	return join(headers(1, 4), headers(3, 5), headers(5, 4), resets(5), data(1, "hi"))
}

func wrongFrames() []wrongFrame {
	const order, flow, header, calm = api.FaultOrder, api.FaultFlow, api.FaultHeader, api.FaultCalm
	block := headers(7, 0, 0x81)
	pings := slices.Repeat(ping(5), 8)
	long := func(n int) []byte { return blockFrames(7, n) }
	return []wrongFrame{
		{"Headers of this end's number", nil, headers(8, 4), order},
		{"Headers of this end's number, no block", nil, headers(8, 4, 0xc0), order},
		{"Headers of a known stream", nil, headers(1, 4), order},
		{"Headers of a stream that was reset", nil, headers(5, 4), order},
		{"Headers of the greatest, no block", nil, headers(5, 4, 0xc0), order},
		{"Headers below the greatest", headers(11, 4), headers(9, 4), order},
		{"Headers of a fifth", join(headers(7, 4), headers(9, 4)), headers(11, 4), order},
		{"Headers of a fifth, without Last", join(headers(7, 4), headers(9, 4)), headers(11, 0), order},
		{"Headers of a fifth, no block", join(headers(7, 4), headers(9, 4)), headers(11, 4, 0xc0), order},
		{"Headers with no block", nil, headers(7, 4, 0xc0), header},
		{"Headers with half a block", nil, headers(7, 4, 0x47, 0x82, 2), header},
		{"Headers with a pair that the table doesn't have", headers(7, 4, 0x47, 0x82, 2, 0x1f), headers(9, 4, 0x8a), header},
		{"a limit above the end's", nil, headers(7, 4, modelCount("001", 129)...), header},
		{"nine pairs", nil, headers(7, 4, slices.Repeat([]byte{0x81}, 9)...), header},
		{"Continue with no block", block, more(7, 4, 0xc0), header},
		{"a block of 701 bytes", nil, long(701), header},
		{"a block of 701 bytes, not at its end", long(700)[:len(long(700))-6-700%64], more(7, 0, make([]byte, 61)...), header},
		{"Continue without a block", nil, more(7, 4), order},
		{"Continue behind a block", headers(7, 4), more(7, 4), order},
		{"Continue of a known stream", nil, more(1, 4), order},
		{"Continue of another stream", block, more(9, 4), order},
		{"Headers in a block", block, headers(7, 4), order},
		{"Headers of another stream in a block", block, headers(9, 4), order},
		{"Data in a block", block, data(1, xs(33)), order},
		{"Data of its stream in a block", block, data(7, ""), order},
		{"Reset in a block", block, resets(1), order},
		{"Reset of its stream in a block", block, resets(7), order},
		{"Settings in a block", block, settings(1), order},
		{"an answer in a block", block, heard(), order},
		{"Ping in a block", block, ping(1), order},
		{"Ping in a block, though too many wait", join(pings, block), ping(1), order},
		{"Goaway in a block", block, goaway(0), order},
		{"Credit in a block", block, credit(0, 1), order},
		{"a kind without a meaning in a block", block, oneFrame(8, 4, 7), order},
		{"the last kind in a block", join(block, more(7, 0)), oneFrame(255, 0, 0), order},
		{"Data of no stream", nil, data(9, ""), order},
		{"Data of no stream, too long", nil, data(9, xs(64)), order},
		{"Data of a stream that was not announced", nil, data(4, ""), order},
		{"Data behind End", nil, data(3, ""), order},
		{"Data behind End, too long", nil, data(3, xs(64)), order},
		{"Data behind End of Data", lastData(1, "x"), lastData(1, ""), order},
		{"Data behind a Reset", nil, data(5, ""), order},
		{"Data behind a Reset, too long", nil, data(5, xs(64)), order},
		{"Data too long for both windows", nil, data(1, xs(31)), flow},
		{"Data too long for its window", settings(1), data(2, xs(33)), flow},
		{"Data too long for the connection's window", data(2, xs(20)), data(1, xs(11)), flow},
		{"Data too long by its padding", nil, padded(1, 30, ""), flow},
		{"Data at a window of 0", data(1, xs(30)), data(2, "x"), flow},
		{"Reset of no stream", nil, resets(9), order},
		{"Reset of a stream that was not announced", nil, resets(4), order},
		{"Settings above the greatest window", credit(1, 2147483547), settings(101), flow},
		{"Settings above that of a closed stream", join(credit(3, 2147483547)), settings(101), flow},
		{"Settings above that of a stream that was reset", join(headers(7, 4), credit(7, 2147483547), resets(7)), settings(101), flow},
		{"Settings above the greatest window, though too many wait", join(pings, credit(1, 2147483547)), settings(101), flow},
		{"Settings, if eight answers wait", pings, settings(1), calm},
		{"Settings, if eight Settings wait", slices.Repeat(settings(3), 8), settings(1), calm},
		{"an answer to nothing", nil, heard(), order},
		{"an answer to nothing, though too many wait", pings, heard(), order},
		{"Ping, if eight answers wait", pings, ping(1), calm},
		{"Ping, if eight Settings wait", slices.Repeat(settings(3), 8), ping(1), calm},
		{"a Goaway", nil, goaway(0), api.ErrDead},
		{"a Goaway with a byte and flags", nil, oneFrame(api.Goaway, 255, 0, 13), api.ErrDead},
		{"Credit above the connection's greatest", nil, credit(0, 2147483616), flow},
		{"Credit above it by one", credit(0, 2147483615), credit(0, 1), flow},
		{"Credit of no stream", nil, credit(9, 1), order},
		{"Credit of no stream, of all there is", credit(0, 2147483615), credit(9, 2147483647), order},
		{"Credit of a stream that was not announced", nil, credit(4, 1), order},
		{"Credit above the stream's greatest", nil, credit(1, 2147483548), flow},
		{"Credit above that of a stream that has all", credit(3, 2147483547), credit(3, 1), flow},
		{"a stream of 0", nil, data(0, ""), api.FaultForm},
		{"a length", nil, oneFrame(api.Reset, 0, 1), api.FaultSize},
		{"a length in a block", block, oneFrame(api.Continue, 4, 7, make([]byte, 65)...)[:6], api.FaultSize},
		{"a body", nil, credit(1, 0), api.FaultForm},
		{"a body of no stream", nil, credit(9, 0), api.FaultForm},
		{"padding", nil, oneFrame(api.Data, api.Padded, 1, 1, 1), api.FaultForm},
	}
}

// blockFrames are Headers and Continue with a block of n bytes, from 620 on.
func blockFrames(s, n int) []byte {
	var b []byte
	long := modelText(strings.Repeat("Z", 40), true) // 51 bytes, where 41 would do
	for range 6 {
		b = append(b, 0)
		b = append(b, long...)
		b = append(b, long...)
	}
	rest := n - len(b) - 1
	name := modelText(strings.Repeat("Z", min(40, rest-2)), false)
	b = append(b, 0)
	b = append(b, name...)
	b = append(b, modelText(strings.Repeat("Z", rest-len(name)-1), false)...)
	l := headers(s, 0, b[:64]...)
	for b = b[64:]; len(b) > 64; b = b[64:] {
		l = append(l, more(s, 0, b[:64]...)...)
	}
	return append(l, more(s, 4, b...)...)
}

// ready is the end that wrongFrame tells of.
func ready(t *testing.T) *watched {
	t.Helper()
	w := talking(t, false, plain(), 100)
	w.opens(list{h("path", "/")}, false, 2)
	w.writes(2, "waits", 5)
	w.Take(4)
	w.opens(nil, false, 4)
	w.feeds(api.OK, known())
	return w
}

// seen is all that an end tells of itself, but for its fault.
func seen(e *sluice.End) string {
	s := fmt.Sprint(e.Streams())
	for _, n := range append(e.Streams(), 0) {
		a, b, _ := e.Windows(n)
		l, _ := e.Heads(n)
		s += fmt.Sprintf(" %d: %d %d %q", n, a, b, l)
	}
	return s
}

func unreadOf(w *watched) string {
	s := ""
	for _, n := range w.e.Streams() {
		b, last, _ := w.Read(n, all)
		s += fmt.Sprintf(" %d: %q %v", n, b, last)
	}
	return s
}

// A fault changes nothing but that the end is dead: what came ahead of it is done, in the same Feed too, and what comes behind it is not read.
func TestFeedFaults(t *testing.T) {
	for _, c := range wrongFrames() {
		t.Run(c.name, func(t *testing.T) {
			before := ready(t)
			before.feeds(api.OK, c.ahead)
			want, unread := seen(before.e), unreadOf(before)

			w := ready(t)
			w.feeds(api.OK, c.ahead)
			w.feeds(c.fault, c.wrong)
			checkDead(w, c.fault, want, unread)

			w = ready(t)
			w.feeds(c.fault, c.ahead, c.wrong, data(1, "more"), headers(13, 4), credit(0, 1))
			checkDead(w, c.fault, want, unread)

			w = ready(t)
			for _, b := range join(c.ahead, c.wrong[:len(c.wrong)-1]) {
				w.feeds(api.OK, []byte{b})
			}
			w.feeds(c.fault, c.wrong[len(c.wrong)-1:])
			checkDead(w, c.fault, want, unread)
		})
	}
}

func checkDead(w *watched, fault api.Errno, want, unread string) {
	w.t.Helper()
	for range 2 {
		for _, b := range [][]byte{nil, {0}, ping(1), goaway(1), data(1, "x")} {
			w.feeds(fault, b)
		}
		if s := seen(w.e); s != want {
			w.t.Errorf("P15, P17: %s, want %s", s, want)
		}
		w.look()
		w.Take(1)
	}
	if s := unreadOf(w); s != unread {
		w.t.Errorf("P17: %s can be read, want %s", s, unread)
	}
	rest := headers(2, 4, 0x81)[6:] // it was made ahead of the fault
	if fault == api.ErrDead {
		w.takes(rest)
	} else {
		w.takes(rest, goaway(byte(fault)))
	}
	w.takes()
}

// What is near to a fault and is none.
func TestFeedNoFault(t *testing.T) {
	pings := slices.Repeat(ping(5), 8)
	for _, c := range []struct {
		name  string
		bytes []byte
	}{
		{"a number left out", headers(11, 4)},
		{"a fourth", join(headers(7, 4), headers(9, 4))},
		{"a fourth and one that was reset", join(headers(7, 4), resets(1), headers(9, 4), headers(11, 4))},
		{"a block of 700 bytes", blockFrames(7, 700)},
		{"a block of nothing", join(headers(7, 0), more(7, 0), more(7, 0), more(7, 4))},
		{"a block with flags that mean nothing", join(headers(7, 0xfa), more(7, 0xfb), more(7, 0xff))},
		{"eight pairs", headers(7, 4, slices.Repeat([]byte{0x81}, 8)...)},
		{"a limit", headers(7, 4, modelCount("001", 128)...)},
		{"Data of just the window", data(1, xs(30))},
		{"Data of nothing at a window of 0", join(data(1, xs(30)), data(1, ""), lastData(2, ""))},
		{"Reset of a stream that has all", resets(3)},
		{"Reset again", join(resets(5), resets(5))},
		{"Settings of all there is", settings(2147483647)},
		{"Settings up to the greatest window", join(credit(1, 2147483547), settings(100), settings(0))},
		{"eight answers", pings},
		{"an answer, if eight wait", join(pings, pong(7))},
		{"Credit of a stream that was reset", join(credit(5, 2147483647), credit(5, 2147483647))},
		{"Credit of a stream up to the greatest", credit(1, 2147483547)},
		{"Credit of the connection up to the greatest", credit(0, 2147483615)},
		{"Credit of a stream, though the connection has all there is", join(credit(0, 2147483615), credit(1, 5))},
		{"kinds without a meaning", join(oneFrame(8, 255, 9), oneFrame(255, 1, 0, make([]byte, 64)...))},
		{"half a frame", []byte{0, 4, 6, 0, 0, 0, 0, 0, 0}},
	} {
		w := ready(t)
		w.feeds(api.OK, c.bytes)
		w.look()
		w.Take(all)
		w.look()
		if t.Failed() {
			t.Fatal(c.name)
		}
	}
}

// The first frame must be Settings without Ack.
func TestFeedFirstFrame(t *testing.T) {
	for _, f := range rightFrames() {
		w := watch(t, true, plain())
		w.Take(all)
		w.opens(nil, false, 1)
		w.Take(all)
		want := api.FaultOrder
		if f.Kind == api.Settings && f.Flags&1 == 0 {
			want = api.OK
		}
		w.feeds(want, bytesOf(f))
		w.look()
		w.Take(all)
	}
}

// Acks: one for each Settings that was made, and not before.
func TestFeedAcks(t *testing.T) {
	w := watch(t, true, plain())
	w.feeds(api.OK, settings(9))
	w.feeds(api.FaultOrder, heard()) // nothing was made
	w = watch(t, true, plain())
	w.Take(1)
	w.feeds(api.OK, settings(9), heard())
	w.feeds(api.FaultOrder, heard())
	w = talking(t, true, plain(), 9)
	w.Set(5)
	w.Take(all)
	w.feeds(api.OK, heard())
	w.feeds(api.FaultOrder, heard())
}

// Answers that were made wait no more, whether they were taken or not.
func TestFeedCalm(t *testing.T) {
	w := watch(t, false, plain())
	w.feeds(api.OK, []byte(greets), settings(9), slices.Repeat(ping(1), 7))
	w.Take(1) // the Settings
	w.Take(10)
	w.feeds(api.OK, ping(2)) // the answer to the Settings was made
	w.feeds(api.FaultCalm, ping(3))
	w = watch(t, false, plain())
	w.feeds(api.OK, []byte(greets), settings(9), slices.Repeat(ping(1), 7))
	w.Take(10) // the Settings alone
	w.feeds(api.FaultCalm, ping(2))
	w = talking(t, false, plain(), 9)
	w.feeds(api.OK, ping(0), ping(0x7fffffff), ping(-1), settings(3), ping(258))
	w.takes(pong(0), pong(0x7fffffff), pong(-1), heard(), pong(258))
}

// A Goaway in the middle: what is ahead is done, what is behind is not read.
func TestFeedGoaway(t *testing.T) {
	w := talking(t, false, plain(), 100)
	w.feeds(api.ErrDead, headers(1, 4, 0x81), data(1, "ab"), goaway(0), data(1, "cd"), headers(3, 4), []byte{255, 255, 255, 255, 255, 255})
	w.feeds(api.ErrDead, []byte{255, 255, 255, 255, 255, 255})
	w.look()
	w.reads(1, 1, "a", false)
	w.takes()
	w.reads(1, 1, "b", false)
	w.look()
}

// said is all that comes to an end that is not first in a talk of many frames, with this at its end.
func said(last []byte) []byte {
	return join([]byte(greets), settings(50), headers(1, 0, 0x47), more(1, 0), more(1, 4, 0x82, 2, 0x1f), data(1, "hello"), padded(1, 2, "you"),
		ping(7), headers(3, 5, 0x89), credit(0, 5), credit(1, 6), oneFrame(77, 3, 9, 1, 2, 3), resets(3), lastData(1, ""), last)
}

// Into whichever pieces it is cut, what comes does the same.
func TestFeedCuts(t *testing.T) {
	for _, last := range [][]byte{nil, data(1, "x"), goaway(3), headers(5, 4, 0xc0), join(goaway(3), data(1, "x")), {0, 65, 0, 0, 0, 1}} {
		b := said(last)
		whole := newEnd(t, false, plain())
		fault := whole.Feed(b)
		want := seen(whole) + string(whole.Take(all))
		read, _, _ := whole.Read(1, all)
		check := func(pieces ...[]byte) {
			t.Helper()
			e := newEnd(t, false, plain())
			for _, p := range pieces {
				e.Feed(p)
			}
			if s := seen(e) + string(e.Take(all)); s != want || e.Fault() != fault {
				t.Errorf("P15: cut into %x: %q, %d, want %q, %d", pieces, s, e.Fault(), want, fault)
			}
			if r, _, _ := e.Read(1, all); !bytes.Equal(r, read) {
				t.Errorf("P15: cut into %x: %q can be read", pieces, r)
			}
		}
		check(oneByOne(b)...)
		for i := range b {
			for j := i; j <= len(b); j += 3 {
				check(b[:i], b[i:j], b[j:])
			}
		}
	}
}

// A stream is known with the last frame of its block, and not before.
func TestFeedBlock(t *testing.T) {
	w := talking(t, false, plain(), 100)
	w.feeds(api.OK, headers(1, 1, 0x47))
	w.look()
	w.feeds(api.OK, more(1, 1, 0x82, 2))
	w.look()
	if l := w.e.Streams(); len(l) != 0 {
		t.Errorf("P18: Streams() = %v", l)
	}
	w.feeds(api.OK, more(1, 4, 0x1f))
	if l, e := w.e.Heads(1); e != api.OK || !slices.Equal(l, list{h("host", "eat")}) {
		t.Errorf("P18: Heads(1) = %q, %d", l, e)
	}
	w.reads(1, 5, "", true) // Headers had End
	w.feeds(api.OK, headers(3, 0, 0x89), more(3, 5))
	w.reads(3, 5, "", false) // Continue has none
	w.look()
	// A stream that is opened here while the other's block is on its way does not come in between.
	w.feeds(api.OK, headers(5, 0))
	w.opens(nil, false, 2)
	w.Take(all)
	w.drops(3)
	w.feeds(api.OK, more(5, 4))
	w.look()
}

// Streams that the other end has closed make room for more.
func TestFeedMany(t *testing.T) {
	w := talking(t, false, plain(), 100)
	w.feeds(api.OK, headers(1, 4), headers(3, 5), headers(5, 4), headers(7, 4))
	for i := 2; i <= 8; i += 2 {
		w.opens(nil, false, i)
	}
	w.Take(all)
	w.closes(3)
	w.Take(all)
	w.feeds(api.OK, headers(9, 4)) // 3 is closed
	w.drops(5)
	w.feeds(api.OK, headers(11, 4))
	w.feeds(api.OK, resets(1), headers(13, 4))
	w.feeds(api.OK, lastData(7, ""))
	w.closes(9)
	w.Take(all)
	w.feeds(api.FaultOrder, headers(15, 4)) // of 7 and 9 only one side is done
}

// All numbers that the other end has.
func TestFeedAllStreams(t *testing.T) {
	e := newEnd(t, false, plain())
	e.Feed(join([]byte(greets), settings(100)))
	for s := 1; s <= 32767; s += 2 {
		if f := e.Feed(join(headers(s, 4, 0x81), resets(s))); f != api.OK {
			t.Fatalf("P15: stream %d: %d", s, f)
		}
	}
	if l := e.Streams(); len(l) != 16384 || l[16383] != 32767 {
		t.Errorf("P18: %d streams", len(l))
	}
	if f := e.Feed(headers(32767, 4)); f != api.FaultOrder {
		t.Errorf("P15: %d", f)
	}
}
