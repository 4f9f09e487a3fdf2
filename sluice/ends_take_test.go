package sluice_test

import (
	"bytes"
	"math"
	"strings"
	"testing"

	"sluice/api"
)

func TestTakeNothing(t *testing.T) {
	w := watch(t, true, plain())
	for _, n := range []int{0, -1, math.MinInt} {
		if b := w.Take(n); len(b) != 0 {
			t.Errorf("P14: Take(%d) = %x", n, b)
		}
	}
	w.Set(7) // nothing was made, so this is what the first Settings have
	if b := w.Take(1); string(b) != "s" {
		t.Errorf("P14: Take(1) = %x", b)
	}
	w.Set(8) // now they were made
	for _, n := range []int{0, -1, math.MinInt} {
		if b := w.Take(n); len(b) != 0 {
			t.Errorf("P14: Take(%d) = %x", n, b)
		}
	}
	w.takes([]byte(greets)[1:], settings(7))
	w.takes()
}

// A frame is made only if fewer bytes than asked for wait.
func TestTakeMakesNoMore(t *testing.T) {
	for n := range 40 {
		w := watch(t, true, plain())
		w.opens(nil, false, 1)
		w.opens(nil, false, 3)
		w.Take(n)
		w.drops(1)
		w.drops(3)
		want := join([]byte(greets), settings(32)) // 17 bytes
		if n > 17 {
			want = join(want, headers(1, 4)) // 23 bytes
		}
		if n > 23 {
			want = join(want, headers(3, 4))
		}
		if n > 17 {
			want = join(want, resets(1))
		}
		if n > 23 {
			want = join(want, resets(3))
		}
		w.takes(want[min(n, 29):])
	}
}

// Take by Take of so many bytes is the same as one of all.
func TestTakePieces(t *testing.T) {
	for n := 1; n < 200; n++ {
		w := talking(t, true, plain(), 1000)
		w.feeds(api.OK, credit(0, 1000), ping(3), ping(4))
		w.opens(list{h(xs(40), xs(40)), h("path", "/")}, false, 1)
		w.writes(1, xs(90), 90)
		w.closes(1)
		var b []byte
		for {
			p := w.Take(n)
			if b = append(b, p...); len(p) < n {
				break
			}
		}
		if i := bytes.Index(b, join(data(1, xs(64)), lastData(1, xs(26)))); i != len(b)-6-64-6-26 {
			t.Errorf("P14: in pieces of %d: %x", n, b)
		}
	}
}

// The seven bytes stand ahead of the first frame of the end that is first, whichever it is.
func TestTakeGreeting(t *testing.T) {
	w := watch(t, true, plain())
	w.takes([]byte(greets), settings(32))
	w.takes()
	w = watch(t, false, plain())
	w.takes(settings(32))
	w = watch(t, true, plain())
	w.feeds(api.FaultOrder, ping(1))
	w.takes([]byte(greets), goaway(11))
	w = watch(t, true, plain())
	w.feeds(api.OK, settings(5))
	w.feeds(api.ErrDead, goaway(1))
	w.takes()
	w = watch(t, true, plain())
	w.Take(5)
	w.feeds(api.FaultOrder, ping(1))
	w.takes([]byte(greets)[5:], settings(32), goaway(11))
}

// busy is an end that has something of each kind to make. It is not first.
func busy(t *testing.T) *watched {
	w := talking(t, false, api.Config{Initial: 32, Conn: 32, Batch: 1, Cap: 64}, 100)
	w.opens(nil, false, 2)
	w.Take(all)
	w.feeds(api.OK, headers(1, 4), headers(3, 4), headers(5, 4), headers(7, 4))
	w.writes(5, "five", 4)
	w.closes(5)
	w.writes(2, "two", 3)
	w.opens(list{h("path", "/")}, true, 4)
	w.opens(list{h("path", "/index")}, false, 6)
	w.feeds(api.OK, data(3, "abc"), data(7, "de"), data(2, "f"))
	w.drops(7)
	w.drops(1)
	w.reads(3, 2, "ab", false)
	w.reads(2, 1, "f", false)
	w.Set(40)
	w.feeds(api.OK, ping(9), settings(90), ping(8))
	return w
}

func TestTakeOrder(t *testing.T) {
	want := [][]byte{
		pong(9), heard(), pong(8),
		settings(40),
		ping(1),
		credit(0, 5),
		credit(2, 1), credit(3, 2),
		resets(7), resets(1),
		headers(4, 5, 0x81), headers(6, 4, 0x82),
		data(2, "two"), lastData(5, "five"),
	}
	w := busy(t)
	w.takes(want...)
	w.takes()
	// Each frame alone: what comes later does not push in behind what is there.
	w = busy(t)
	for i, f := range want {
		if b := w.Take(1); !bytes.Equal(b, f[:1]) {
			t.Errorf("P14: frame %d: %x", i, b)
		}
		if b := w.Take(len(f) - 1); !bytes.Equal(b, f[1:]) {
			t.Errorf("P14: frame %d: %x, want %x", i, b, f[1:])
		}
	}
	w.takes()
	// A fault is told at once, and nothing else, a Goaway is not answered.
	w = busy(t)
	w.feeds(api.FaultOrder, data(9, ""))
	w.takes(goaway(11))
	w.takes()
	w = busy(t)
	w.feeds(api.ErrDead, goaway(9))
	w.takes()
	w = busy(t)
	w.Take(len(want[0]) + 1)
	w.feeds(api.FaultOrder, data(9, ""))
	w.takes(want[1][1:], goaway(11))
}

// The same, of an end that has not made its Settings yet.
func TestTakeFirstSettings(t *testing.T) {
	w := watch(t, false, api.Config{Initial: 5, Conn: 50, Batch: 1, Cap: 64})
	w.opens(nil, false, 2)
	w.writes(2, "two", 3)
	w.feeds(api.OK, []byte(greets), settings(90), ping(9), headers(1, 4), headers(3, 4), data(1, "abc"))
	w.reads(1, 9, "abc", false)
	w.writes(1, "one", 3)
	w.drops(3)
	w.Set(6)
	w.takes(settings(6), heard(), pong(9), ping(1), credit(0, 21), credit(1, 3), resets(3), headers(2, 4), data(1, "one"), data(2, "two"))
}

// Settings that are wanted wait for the Ack of those ahead of them.
func TestTakeSettingsWait(t *testing.T) {
	w := watch(t, true, plain())
	w.takes([]byte(greets), settings(32))
	w.feeds(api.OK, settings(9))
	w.Set(5)
	w.Set(6)
	w.takes(heard())
	w.feeds(api.OK, heard())
	w.Set(7)
	w.takes(settings(7))
	w.Set(32)
	w.takes()
	w.Set(7)
	w.feeds(api.OK, heard())
	w.takes()
	w.Set(32)
	w.takes(settings(32))
}

// listOf is a list whose block has n bytes, and that block.
func listOf(n int) (list, []byte) {
	var l list
	var b []byte
	for n > len(b) {
		rest := n - len(b)
		name := strings.Repeat(string('0'+rune(len(l))), min(40, rest-3)) // of its own, so that none is packed by number
		value := strings.Repeat("\x01", max(0, min(40, rest-3-len(name))))
		l = append(l, h(name, value))
		b = append(b, newModel(128).pack(nil, list{l[len(l)-1]})...)
	}
	return l, b
}

// A block of any length: cut into pieces of MaxBody, with Last on the last of them.
func TestTakeBlocks(t *testing.T) {
	for _, n := range []int{4, 40, 63, 64, 65, 127, 128, 129, 191, 192, 193, 256, 257} {
		for _, last := range []bool{false, true} {
			w := talking(t, true, plain(), 100)
			l, b := listOf(n)
			if len(b) != n {
				t.Fatalf("the block has %d bytes", len(b))
			}
			w.opens(l, last, 1)
			w.opens(nil, false, 3)
			end := 0
			if last {
				end = 1
			}
			var want [][]byte
			if n <= 64 {
				want = append(want, headers(1, 4+end, b...))
			} else {
				want = append(want, headers(1, end, b[:64]...))
				for b = b[64:]; len(b) > 64; b = b[64:] {
					want = append(want, more(1, 0, b[:64]...))
				}
				want = append(want, more(1, 4, b...))
			}
			w.Take(1)
			w.drops(1) // all of the block was made at once
			w.takes(join(want...)[1:], resets(1), headers(3, 4))
		}
	}
}

// The longest list that there is, there and back.
func TestTakeLongestBlock(t *testing.T) {
	w, o := talking(t, true, plain(), 100), talking(t, false, plain(), 100)
	var l list
	for i := range 8 {
		l = append(l, h(strings.Repeat("\x00", 39)+string(rune('0'+i)), strings.Repeat("\x01", 40)))
	}
	w.opens(l, true, 1)
	b := w.Take(all)
	if len(b) != 8*83+11*6 {
		t.Errorf("P14: %d bytes", len(b))
	}
	o.feeds(api.OK, b)
	o.look()
}

// All streams of an end share one packer, and their blocks are packed when they are made.
func TestTakeOnePacker(t *testing.T) {
	w := talking(t, true, plain(), 100)
	l := list{h("host", "eat")}
	w.opens(l, false, 1)
	w.opens(l, false, 3)
	w.drops(1)
	w.opens(l, false, 5)
	w.takes(headers(3, 4, 0x47, 0x82, 0x02, 0x1f), headers(5, 4, 0x89))
	w.opens(list{h("x", "")}, true, 7)
	w.opens(l, false, 9)
	w.takes(headers(7, 5, 0x40, 1, 'x', 0), headers(9, 4, 0x8a))
}

func TestTakeTurns(t *testing.T) {
	w := talking(t, false, plain(), 1000)
	w.feeds(api.OK, headers(1, 4), headers(3, 4), headers(7, 4), credit(0, 10000))
	w.opens(nil, false, 2)
	for _, s := range []int{7, 3, 2, 1} {
		w.writes(s, xs(100), 100)
	}
	w.takes(headers(2, 4), data(1, xs(64)), data(2, xs(64)), data(3, xs(64)), data(7, xs(64)), data(1, xs(36)), data(2, xs(36)), data(3, xs(36)), data(7, xs(36)))
	// From the one on that was last, and round.
	w.writes(3, "c", 1)
	w.takes(data(3, "c"))
	w.writes(1, "a", 1)
	w.writes(2, "b", 1)
	w.writes(3, "c", 1)
	w.takes(data(1, "a"), data(2, "b"), data(3, "c"))
	w.writes(1, "a", 1)
	w.writes(7, "d", 1)
	w.takes(data(7, "d"), data(1, "a"))
	// The one that was last may be closed since.
	w.writes(3, "c", 1)
	w.closes(3)
	w.takes(lastData(3, "c"))
	w.drops(3)
	w.writes(2, "b", 1)
	w.writes(7, "d", 1)
	w.takes(resets(3), data(7, "d"), data(2, "b"))
	w.closes(1)
	w.closes(2)
	w.writes(7, "d", 1)
	w.takes(data(7, "d"), lastData(1, ""), lastData(2, ""))
}

func TestTakeWindows(t *testing.T) {
	w := talking(t, true, plain(), 10)
	w.opens(nil, false, 1)
	w.opens(nil, false, 3)
	w.writes(1, "abcdefghijklmno", 15)
	w.writes(3, xs(50), 50)
	w.closes(1)
	w.takes(headers(1, 4), headers(3, 4), data(1, "abcdefghij"), data(3, xs(10)))
	w.windows(1, 0, 32)
	w.windows(0, 12, 32)
	w.feeds(api.OK, credit(1, 1))
	w.takes(data(1, "k"))
	w.feeds(api.OK, credit(3, 30))
	w.takes(data(3, xs(11))) // by the connection's
	w.windows(0, 0, 32)
	w.windows(3, 19, 32)
	w.feeds(api.OK, credit(1, 3))
	w.takes()
	w.feeds(api.OK, credit(0, 1))
	w.takes(data(1, "l"))
	w.feeds(api.OK, credit(0, 2))
	w.takes(data(3, "xx"))
	w.feeds(api.OK, credit(0, 100))
	w.takes(data(1, "mn"), data(3, xs(17)))
	w.windows(1, 0, 32)
	w.windows(3, 0, 32)
	w.feeds(api.OK, credit(1, 1))
	w.takes(lastData(1, "o"))
	w.windows(1, 0, 32)
}

// The last Data goes without any window, if it carries nothing.
func TestTakeEmptyEnd(t *testing.T) {
	w := talking(t, true, plain(), 0)
	w.opens(nil, false, 1)
	w.opens(nil, false, 3)
	w.writes(3, "x", 1)
	w.closes(1)
	w.closes(3)
	w.takes(headers(1, 4), headers(3, 4), lastData(1, ""))
	w.feeds(api.OK, settings(32))
	w.opens(nil, false, 5)
	w.writes(5, xs(32), 32)
	w.takes(heard(), headers(5, 4), lastData(3, "x"), data(5, xs(31)))
	w.feeds(api.OK, settings(2))
	w.windows(0, 0, 32)
	w.windows(5, -29, 32)
	w.takes(heard())
	w.closes(5)
	w.takes()
	w.feeds(api.OK, credit(0, 5))
	w.takes()
	w.feeds(api.OK, credit(5, 29))
	w.takes()
	w.feeds(api.OK, credit(5, 1))
	w.takes(lastData(5, "x"))
	// Windows below 0 hold nothing up that is empty.
	w = talking(t, true, plain(), 32)
	w.opens(nil, false, 1)
	w.writes(1, xs(32), 32)
	w.Take(all)
	w.feeds(api.OK, settings(0))
	w.closes(1)
	w.takes(heard(), lastData(1, ""))
	w.windows(1, -32, 32)
}

// Nothing is made for a stream before its Headers, nor behind a reset.
func TestTakeNoDataAfterReset(t *testing.T) {
	w := talking(t, false, plain(), 5)
	w.feeds(api.OK, headers(1, 4), headers(3, 4))
	w.writes(1, xs(10), 10)
	w.writes(3, xs(10), 10)
	w.closes(1)
	w.closes(3)
	w.Take(1)
	w.drops(1)
	w.feeds(api.OK, resets(3), settings(50))
	w.takes(data(1, xs(5))[1:], heard(), resets(1))
}
