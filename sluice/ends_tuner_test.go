package sluice_test

import (
	"testing"

	"sluice/api"
)

// tuned is an end whose connection has the target conn, with stream 1, whose window is far off. Credit is due from one byte on.
func tuned(t *testing.T, conn, most int) *watched {
	t.Helper()
	w := talking(t, false, api.Config{Initial: 1000, Conn: conn, Batch: 1, Cap: most}, 100)
	w.feeds(api.OK, headers(1, 4))
	return w
}

// probed lets a probe go by: so many bytes (up to 64) come, its Ping is made, so many ticks go by, and it is answered. What came is read, and the credit that is made for it, beside what the target grew by, is taken.
func (w *watched) probed(number, bytes, ticks, grown int) {
	w.t.Helper()
	w.feeds(api.OK, data(1, xs(bytes)))
	w.takes(ping(number))
	w.Tick(ticks)
	w.feeds(api.OK, pong(number))
	if grown > 0 {
		w.takes(credit(0, grown))
	} else {
		w.takes()
	}
	w.reads(1, all, xs(bytes), false)
	w.takes(credit(0, bytes), credit(1, bytes))
}

func TestTunerGrows(t *testing.T) {
	w := tuned(t, 32, 200)
	w.probed(1, 16, 16, 32)
	w.probed(2, 32, 8, 64)
	w.probed(3, 64, 1, 72) // up to Cap
	w.windows(0, 32, 200)
	w.feeds(api.OK, data(1, xs(64)))
	w.takes() // and no more probes
	w.windows(0, 32, 136)
}

// Twice the count must be the target or more.
func TestTunerTwice(t *testing.T) {
	w := tuned(t, 41, 100)
	w.probed(1, 20, 20, 0)
	w.probed(2, 21, 20, 41)
	w.probed(3, 40, 20, 0)
	w.probed(4, 41, 20, 18)
	w = tuned(t, 40, 100)
	w.probed(1, 19, 20, 0)
	w.probed(2, 20, 20, 40)
}

// A sample that does not make the target grow is the best nevertheless; and one that is no better makes nothing grow, however great its count is.
func TestTunerBest(t *testing.T) {
	w := tuned(t, 64, 1000)
	w.probed(1, 10, 2, 0)  // 5 a tick
	w.probed(2, 40, 8, 0)  // 5 a tick
	w.probed(3, 60, 13, 0) // less
	w.probed(4, 60, 11, 64)
}

// Samples are held against one another as exact fractions.
func TestTunerFractions(t *testing.T) {
	w := tuned(t, 64, 1000)
	w.probed(1, 10, 30, 0)
	w.probed(2, 33, 99, 0)
	w.probed(3, 33, 100, 0)
	w.probed(4, 33, 98, 64)
	w = tuned(t, 64, 1000)
	w.probed(1, 1, 333333, 0)
	w.probed(2, 1, 333333, 0)
	w.probed(3, 32, 333333, 64)
	w = tuned(t, 32, 1000)
	w.probed(1, 31, 499999, 32)
	w.probed(2, 32, 499999, 64) // just a little more a tick
	w.probed(3, 32, 2, 0)       // far more, but 64 is below the target
}

// No time at all counts as one tick.
func TestTunerNoTick(t *testing.T) {
	w := tuned(t, 32, 1000)
	w.probed(1, 16, 0, 32)
	w.probed(2, 16, 1, 0)
	w.probed(3, 33, 2, 64) // 16 and a half
}

// The clock counts from when the Ping was made, not from when the probe began, nor from when the Ping was taken.
func TestTunerClock(t *testing.T) {
	w := tuned(t, 32, 1000)
	w.probed(1, 15, 3, 0) // 5 a tick
	w.Tick(100)
	w.feeds(api.OK, data(1, xs(20)))
	w.Tick(100)
	w.Take(1)
	w.Tick(3)
	w.Take(all)
	w.feeds(api.OK, pong(2)) // 20 in 3
	w.takes(credit(0, 32))
	w.reads(1, all, xs(20), false)
	w.Take(all)
	w.probed(3, 40, 6, 0) // the same
	w.probed(4, 40, 5, 64)
}

// All Data that comes while a probe is under way counts, ahead of its Ping too, and that of streams that are reset; whole bodies.
func TestTunerCounts(t *testing.T) {
	w := tuned(t, 40, 1000)
	w.feeds(api.OK, headers(3, 4), data(1, ""))
	w.takes() // nothing came
	w.feeds(api.OK, padded(3, 3, "a"), data(1, "bc"))
	w.drops(3)
	w.takes(ping(1), credit(0, 5), resets(3))
	w.feeds(api.OK, data(3, "defg"), data(1, xs(8)))
	w.takes(credit(0, 4))
	w.feeds(api.OK, data(1, "h"), pong(1)) // 20
	w.takes(credit(0, 40))
	w.feeds(api.OK, data(3, "i")) // a probe begins with what nobody reads as well
	w.takes(ping(2), credit(0, 1))
}

// One less is not enough.
func TestTunerCountsAll(t *testing.T) {
	w := tuned(t, 40, 1000)
	w.feeds(api.OK, padded(1, 3, "a"), data(1, "bc"))
	w.takes(ping(1), credit(0, 4), credit(1, 4))
	w.feeds(api.OK, data(1, xs(12)), pong(1), data(1, "x")) // 19, and then the next begins
	w.takes(ping(2))
}

// Pings with Ack that are no probe's do nothing.
func TestTunerOtherAnswers(t *testing.T) {
	w := tuned(t, 32, 1000)
	w.feeds(api.OK, pong(0), pong(1), pong(2))
	w.feeds(api.OK, data(1, xs(20)), pong(1)) // the Ping was not made yet
	w.takes(ping(1))
	w.feeds(api.OK, pong(0), pong(2), pong(-1), pong(1<<24), ping(1))
	w.takes(pong(1))
	w.feeds(api.OK, data(1, xs(5)))
	w.takes() // still under way
	w.feeds(api.OK, pong(1))
	w.takes(credit(0, 32))
	w.feeds(api.OK, pong(1), pong(1))
	w.takes()
	w.feeds(api.OK, data(1, xs(20)))
	w.takes(ping(2))
	w.feeds(api.OK, pong(1), pong(2), pong(2))
	w.takes()
	// A Ping that was made, but not taken.
	w = tuned(t, 32, 1000)
	w.feeds(api.OK, data(1, xs(20)))
	w.Take(1)
	w.feeds(api.OK, pong(1))
	w.takes(ping(1)[1:], credit(0, 32))
}

// No probe at an end whose target is Cap.
func TestTunerAtCap(t *testing.T) {
	w := tuned(t, 200, 200)
	w.feeds(api.OK, data(1, xs(64)))
	w.takes()
	w = tuned(t, 200, 201)
	w.feeds(api.OK, data(1, xs(64)), data(1, xs(64)))
	w.takes(ping(1))
	w.feeds(api.OK, pong(1))
	w.takes(credit(0, 1))
	w.feeds(api.OK, data(1, "x"))
	w.takes()
}

// P22: the credit of the connection stays within Cap and what was read or dropped, and no Ping is made while one has no answer.
func TestTunerBounds(t *testing.T) {
	r := chance()
	for range 50 {
		c := anyConfig(r)
		c.Initial = 1000
		w := talking(t, false, c, 100)
		w.feeds(api.OK, headers(1, 4))
		pings := 0
		for range 60 {
			if n := min(64, w.m.receiveWindow(0), w.m.receiveWindow(1)); n > 0 {
				w.feeds(api.OK, data(1, xs(r.IntN(n)+1)))
			}
			w.Read(1, r.IntN(100))
			w.Tick(r.IntN(3))
			w.Take(r.IntN(60))
			made := w.m.tuner().pings
			if made > pings+1 {
				t.Errorf("P22: %d Pings, but %d answers", made, pings)
			}
			if made > pings && r.IntN(3) == 0 {
				pings = made
				w.feeds(api.OK, pong(made))
			}
			if target := w.m.tuner().target; target > c.Cap {
				t.Errorf("P22: the target is %d, Cap %d", target, c.Cap)
			}
			if n := w.m.of[0].total("made", api.Credit, numberOf); n > c.Cap-32+w.m.bytesRead(1) {
				t.Errorf("P22: credit of %d was made, %d were read, Cap is %d", n, w.m.bytesRead(1), c.Cap)
			}
		}
		if t.Failed() {
			t.Fatalf("%+v", c)
		}
	}
}
