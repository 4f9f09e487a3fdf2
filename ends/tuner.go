package ends

import "sluice/api"

// tuner finds out by probes how much the connection carries, and how much should be granted for that.
type tuner struct {
	target, most int
	best         sample
	probe        probe
}

// sample is how many bytes came in how many ticks.
type sample struct {
	bytes, ticks int
}

// probe is the one that is under way, or was last.
type probe struct {
	number   uint32
	underWay bool
	pinged   bool // its Ping was made
	start    int  // the clock at that time
	count    int
}

func newTuner(target, most int) tuner {
	return tuner{target: target, most: most, best: sample{bytes: 0, ticks: 1}}
}

// isMore tells whether a has more bytes a tick than b. The products are far below what an int holds.
func (a sample) isMore(b sample) bool { return a.bytes*b.ticks > b.bytes*a.ticks }

// count takes in that Data came with so many bytes.
func (t *tuner) count(n int) {
	if t.probe.underWay {
		t.probe.count = min(t.probe.count+n, api.MaxNumber)
	} else if n >= 1 && t.target < t.most {
		t.probe = probe{number: t.probe.number + 1, underWay: true, count: n}
	}
}

// ping answers the number for a Ping that is to be made now, if one is.
func (t *tuner) ping(clock int) (uint32, bool) {
	if !t.probe.underWay || t.probe.pinged {
		return 0, false
	}
	t.probe.pinged = true
	t.probe.start = clock
	return t.probe.number, true
}

// answer takes in that a Ping with Ack came, and answers by how much the target grew.
func (t *tuner) answer(number uint32, clock int) int {
	if !t.probe.underWay || !t.probe.pinged || number != t.probe.number {
		return 0
	}
	t.probe.underWay = false
	s := sample{bytes: t.probe.count, ticks: max(1, clock-t.probe.start)}
	if !s.isMore(t.best) {
		return 0
	}
	t.best = s
	if 2*s.bytes < t.target {
		return 0
	}
	before := t.target
	t.target = min(2*t.target, t.most)
	return t.target - before
}
