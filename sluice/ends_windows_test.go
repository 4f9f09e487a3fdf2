package sluice_test

import (
	"testing"

	"sluice/api"
)

func TestExampleEnds(t *testing.T) {
	a := watch(t, true, api.Config{Initial: 40, Conn: 32, Batch: 1, Cap: 32})
	a.opens(list{h("path", "/")}, false, 1)
	a.writes(1, "hi", 2)
	made := unhex(t, "73 6c 75 69 63 65 0a 00 04 03 00 00 00 00 00 00 28 00 01 01 04 00 01 81 00 02 00 00 00 01 68 69")
	if b := a.Take(1000); string(b) != string(made) {
		t.Errorf("P14: Take(1000) = %x", b)
	}
	a.windows(1, 30, 32)
	a.windows(0, 30, 32)
	b := watch(t, false, api.Config{Initial: 5, Conn: 50, Batch: 4, Cap: 50})
	b.feeds(api.OK, made)
	b.look()
	b.windows(1, 40, 30)
	b.windows(0, 32, 30)
	b.reads(1, 9, "hi", false)
	answer := unhex(t, "00 04 03 00 00 00 00 00 00 05 00 00 03 01 00 00 00 04 06 00 00 00 00 00 00 14")
	b.takes(answer)
	a.feeds(api.OK, answer)
	a.windows(1, 3, 40)
	a.windows(0, 50, 32)
	c := watch(t, false, plain())
	c.feeds(api.OK, unhex(t, "73 6c 75 69"))
	c.feeds(api.FaultForm, unhex(t, "78"))
	c.takes(unhex(t, "00 01 05 00 00 00 09"))
	c.takes()
	wantOpenError(c, nil, api.ErrDead)
}

// The other's initial window is that of the last Settings, and moves the send windows of all streams, of closed ones too.
func TestWindowsOtherInitial(t *testing.T) {
	w := watch(t, false, plain())
	w.opens(nil, false, 2)
	w.windows(2, 32, 32)
	w.feeds(api.OK, []byte(greets), settings(10), headers(1, 4), headers(3, 4), headers(5, 4))
	w.windows(1, 10, 32)
	w.windows(2, 10, 32)
	w.writes(1, "abc", 3)
	w.closes(1)
	w.feeds(api.OK, lastData(1, ""), credit(3, 7))
	w.Take(all)
	w.drops(3)
	w.feeds(api.OK, resets(5), credit(3, 9), credit(5, 9))
	w.windows(1, 7, 32)
	w.windows(3, 17, 32)
	w.windows(5, 10, 32)
	w.feeds(api.OK, settings(0))
	w.windows(1, -3, 32)
	w.windows(2, 0, 32)
	w.windows(3, 7, 32)
	w.windows(5, 0, 32)
	w.feeds(api.OK, settings(2147483640))
	w.windows(1, 2147483637, 32)
	w.windows(3, 2147483647, 32)
	w.feeds(api.OK, credit(1, 2)) // sent and read to the end, but not reset
	w.windows(1, 2147483639, 32)
	w.windows(0, 29, 32)
}

// The own initial window is that of the last Settings whose Ack came.
func TestWindowsOwnInitial(t *testing.T) {
	w := watch(t, false, api.Config{Initial: 10, Conn: 32, Batch: 100, Cap: 32})
	w.feeds(api.OK, []byte(greets), settings(32), headers(1, 4), headers(3, 4), data(3, "ab"))
	w.drops(3)
	w.windows(1, 32, 32)
	w.windows(3, 32, 30)
	w.Take(all)
	w.windows(1, 32, 32)
	w.feeds(api.OK, data(1, xs(15)))
	w.feeds(api.OK, heard())
	w.windows(1, 32, -5)
	w.windows(3, 32, 8)
	w.windows(0, 32, 15)
	w.feeds(api.OK, data(1, ""), padded(3, 0, ""))
	w.Set(20)
	w.Take(all)
	w.windows(1, 32, -5)
	w.feeds(api.OK, heard())
	w.windows(1, 32, 5)
	w.feeds(api.FaultFlow, data(1, xs(6)))
	w.windows(1, 32, 5)
}

// Credit that is due because the window is 0 or less, though less than Batch is owed.
func TestCreditAtZero(t *testing.T) {
	w := talking(t, false, api.Config{Initial: 8, Conn: 32, Batch: 100, Cap: 32}, 32)
	w.feeds(api.OK, headers(1, 4), headers(3, 4), headers(5, 4), data(1, xs(7)))
	w.reads(1, 7, xs(7), false)
	w.takes()
	w.feeds(api.OK, data(1, "y"))
	w.takes(credit(1, 7)) // its window was 0
	w.windows(1, 32, 7)
	w.reads(1, 1, "y", false)
	w.takes()
	w.feeds(api.OK, data(1, xs(7)), data(3, xs(8)), data(5, xs(8)))
	w.windows(0, 32, 1)
	w.takes(credit(1, 1)) // 0 is owed of 3 and 5
	w.feeds(api.OK, data(1, "z"))
	w.windows(0, 32, 0)
	w.takes(credit(0, 8))
	// A window below 0: it stays so with less credit than that.
	w.Set(0)
	w.takes(settings(0))
	w.feeds(api.OK, heard())
	w.windows(1, 32, -8)
	w.reads(1, 3, xs(3), false)
	w.takes(credit(1, 3))
	w.windows(1, 32, -5)
	w.reads(1, 9, xs(4)+"z", false)
	w.takes(credit(1, 5))
	w.windows(1, 32, 0)
	w.takes()
}

// Credit is due from Batch on, by the connection and by each stream alone.
func TestCreditBatch(t *testing.T) {
	w := talking(t, false, api.Config{Initial: 32, Conn: 41, Batch: 10, Cap: 41}, 32)
	w.takes() // 9 are owed of the connection
	w.feeds(api.OK, headers(1, 4), headers(3, 4), data(1, xs(10)), data(3, xs(12)))
	w.takes()
	w.reads(1, 9, xs(9), false)
	w.takes(credit(0, 18))
	w.reads(3, 9, xs(9), false)
	w.takes()
	w.reads(1, 1, "x", false)
	w.takes(credit(0, 10), credit(1, 10))
	w.reads(3, 1, "x", false)
	w.takes(credit(3, 10))
	w.windows(0, 32, 38)
	w.windows(1, 32, 32)
	w.windows(3, 32, 30)
}

// No credit for a stream of which all came, nor for one that is reset; the connection gets it nevertheless.
func TestCreditOfEnded(t *testing.T) {
	w := talking(t, false, plain(), 32)
	w.feeds(api.OK, headers(1, 4), headers(3, 4), data(1, "ab"), data(3, "cd"), lastData(1, "e"), data(3, "f"))
	w.reads(1, 9, "abe", true)
	w.reads(3, 2, "cd", false)
	w.drops(3)
	w.takes(credit(0, 6), resets(3))
	w.windows(1, 32, 29)
	w.windows(3, 32, 29)
}

// What pads Data is owed at once, also of Data that carries nothing else.
func TestCreditPadding(t *testing.T) {
	w := talking(t, false, plain(), 32)
	w.feeds(api.OK, headers(1, 4), padded(1, 3, "abc"))
	w.takes(credit(0, 4), credit(1, 4))
	w.windows(0, 32, 29)
	w.windows(1, 32, 29)
	w.feeds(api.OK, padded(1, 0, ""), padded(1, 5, ""))
	w.takes(credit(0, 7), credit(1, 7))
	w.reads(1, 9, "abc", false)
	w.takes(credit(0, 3), credit(1, 3))
	w.feeds(api.OK, padded(1, 27, "abcd"))
	w.windows(1, 32, 0)
	w.feeds(api.FaultFlow, padded(1, 0, ""))
}

// Data for a stream that a call has reset is taken off the connection's window and owed at once, padding and all; the stream's own windows stay.
func TestCreditOfReset(t *testing.T) {
	w := talking(t, false, plain(), 32)
	w.feeds(api.OK, headers(1, 4), data(1, "abc"))
	w.drops(1)
	w.takes(credit(0, 3), resets(1))
	w.feeds(api.OK, padded(1, 2, "de"), data(1, xs(27)), data(1, ""))
	w.windows(0, 32, 0)
	w.windows(1, 32, 29)
	w.takes(credit(0, 32))
	w.feeds(api.OK, lastData(1, "f"), data(1, "g")) // End means nothing then
	w.takes(credit(0, 2))
	w.feeds(api.OK, data(1, xs(32)))
	w.feeds(api.FaultFlow, data(1, "x"))
	// What was all there already when the call came: then Data is out of order.
	w = talking(t, false, plain(), 32)
	w.feeds(api.OK, headers(1, 5))
	w.drops(1)
	w.feeds(api.FaultOrder, data(1, ""))
	w = talking(t, false, plain(), 32)
	w.opens(nil, false, 2)
	w.Take(all)
	w.drops(2)
	w.feeds(api.OK, data(2, "ab"), lastData(2, ""), resets(2), data(2, "c"))
	w.takes(credit(0, 3), resets(2))
}

// A stream that a call has reset may get more than its own window allows, for that is not asked any more.
func TestResetHasNoOwnWindow(t *testing.T) {
	w := talking(t, false, api.Config{Initial: 0, Conn: 32, Batch: 1000, Cap: 32}, 32)
	w.feeds(api.OK, headers(1, 4))
	w.windows(1, 32, 0)
	w.drops(1)
	w.feeds(api.OK, data(1, xs(20)))
	w.windows(1, 32, 0)
	w.windows(0, 32, 12)
	w.feeds(api.OK, data(1, xs(12)))
	w.takes(credit(0, 32), resets(1))
}

// P16: whatever comes, no more is sent than was granted, and no more is kept.
func TestNeverMore(t *testing.T) {
	w := talking(t, false, api.Config{Initial: 20, Conn: 32, Batch: 1, Cap: 32}, 7)
	w.feeds(api.OK, headers(1, 4), headers(3, 4))
	w.writes(1, xs(100), 100)
	w.takes(data(1, xs(7)))
	w.feeds(api.OK, settings(3))
	w.feeds(api.OK, settings(9))
	w.takes(heard(), heard(), data(1, "xx"))
	w.feeds(api.OK, data(1, xs(20)), data(3, xs(12)))
	w.takes()
	w.feeds(api.FaultFlow, data(3, "y"))
	w.reads(1, all, xs(20), false)
	w.reads(3, all, xs(12), false)
}

func TestLooks(t *testing.T) {
	w := talking(t, false, plain(), 32)
	w.opens(list{h("host", "eat"), h("host", "eat"), h("", "")}[:2], false, 2)
	w.feeds(api.OK, headers(5, 4, 0x81), headers(9, 4, 0x47, 0x82, 0x02, 0x1f), headers(11, 4, 0x89))
	w.opens(nil, false, 4)
	w.look()
	for _, dead := range [][]byte{nil, goaway(1), ping(1)} {
		if dead != nil {
			w.Feed(join(dead, dead, dead, dead, dead, dead, dead, dead, dead))
		}
		for _, s := range []int{-1, 1, 3, 6, 7, 13, 32767} {
			if a, b, e := w.e.Windows(s); a != 0 || b != 0 || e != api.ErrStream {
				t.Errorf("P18: Windows(%d) = %d, %d, %d", s, a, b, e)
			}
			if l, e := w.e.Heads(s); l != nil || e != api.ErrStream {
				t.Errorf("P18: Heads(%d) = %q, %d", s, l, e)
			}
		}
		if l, e := w.e.Heads(0); l != nil || e != api.ErrStream {
			t.Errorf("P18: Heads(0) = %q, %d", l, e)
		}
		w.look()
	}
}
