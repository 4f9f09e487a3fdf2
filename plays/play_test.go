package plays

import (
	"fmt"
	"runtime"
	"slices"
	"sync/atomic"
	"testing"
	"time"

	"sluice/api"
)

// fake is an end that writes down which calls are made of it. It takes, and gives, at most a few bytes with each call, and none of a stream whose number is below 0.
type fake struct {
	name string
	few  int
	all  *record
}

// record is what was called of both ends, and how many calls are under way.
type record struct {
	calls []string
	busy  atomic.Int32
	clash bool
}

func (f *fake) tell(what string, s int) {
	if f.all.busy.Add(1) != 1 {
		f.all.clash = true
	}
	f.all.calls = append(f.all.calls, fmt.Sprint(f.name, " ", what, " ", s))
	runtime.Gosched()
	f.all.busy.Add(-1)
}

func (f *fake) flow(s, n int) int {
	if s < 0 {
		return 0
	}
	return min(n, f.few)
}

func (f *fake) Open(l []api.Header, last bool) (int, api.Errno) {
	f.tell("open", 0)
	return 0, api.OK
}

func (f *fake) Write(s int, b []byte) (int, api.Errno) {
	f.tell("write", s)
	return f.flow(s, len(b)), api.OK
}

func (f *fake) Close(s int) api.Errno {
	f.tell("close", s)
	return api.OK
}

func (f *fake) Read(s int, n int) ([]byte, bool, api.Errno) {
	f.tell("read", s)
	return make([]byte, f.flow(s, n)), false, api.OK
}

func (f *fake) Reset(s int) api.Errno {
	f.tell("reset", s)
	return api.OK
}

func (f *fake) Set(n int) api.Errno {
	f.tell("set", n)
	return api.OK
}

func (f *fake) Tick(n int) api.Errno {
	f.tell("tick", n)
	return api.OK
}

func (f *fake) Take(n int) []byte {
	f.tell("take", n)
	return make([]byte, n)
}

func (f *fake) Feed(b []byte) api.Errno {
	f.tell("feed", len(b))
	return api.OK
}

func (f *fake) Heads(s int) ([]api.Header, api.Errno) {
	f.tell("heads", s)
	return nil, api.OK
}

// playFakes plays with ends that take and give so many bytes with a call.
func playFakes(few int, script ...api.Step) ([]api.Done, *record) {
	r := &record{}
	d := Run(&fake{"a", few, r}, &fake{"b", few, r}, script)
	return d, r
}

func writes(end, s, n int) api.Step {
	return api.Step{Kind: api.DoWrite, End: end, Stream: s, Bytes: make([]byte, n)}
}

func reads(end, s, n int) api.Step {
	return api.Step{Kind: api.DoRead, End: end, Stream: s, N: n}
}

func closes(end, s int) api.Step { return api.Step{Kind: api.DoClose, End: end, Stream: s} }

func ticks(n int) api.Step { return api.Step{Kind: api.DoTick, N: n} }

func wantCalls(t *testing.T, r *record, want ...string) {
	t.Helper()
	if !slices.Equal(r.calls, want) {
		t.Errorf("P19: the calls are\n%q, want\n%q", r.calls, want)
	}
}

func wantSteps(t *testing.T, l []api.Done, want ...int) {
	t.Helper()
	var got []int
	for _, d := range l {
		got = append(got, d.Step)
	}
	if !slices.Equal(got, want) {
		t.Errorf("P19: done behind the steps %v, want %v", got, want)
	}
}

// Behind each step every task that is not over has one call, in the order of their steps, whatever end, stream and kind they are of.
func TestOrderOfTurns(t *testing.T) {
	l, r := playFakes(2, writes(1, 5, 7), reads(0, 9, 5), reads(1, 5, 7), writes(0, 9, 5), ticks(0), ticks(1))
	wantCalls(t, r,
		"b write 5",
		"b write 5", "a read 9",
		"b write 5", "a read 9", "b read 5",
		"b write 5", "a read 9", "b read 5", "a write 9",
		"a tick 0", "b read 5", "a write 9",
		"a tick 1", "b read 5", "a write 9",
	)
	wantSteps(t, l, 3, 3, 5, 5, 4, 5)
}

// A task that waits has its turn as soon as the one ahead of it is over, but behind those of earlier steps.
func TestOrderBehindWaiting(t *testing.T) {
	l, r := playFakes(2,
		writes(0, 1, 3),  // over behind step 1
		reads(1, 1, 1e9), // has its turn behind that, for ever
		closes(0, 1),     // over at once
		writes(0, 1, 6),  // over behind step 5
		reads(0, 7, 1e9),
		closes(0, 1), // waits for step 3 till then
		writes(0, 1, 0),
	)
	wantCalls(t, r,
		"a write 1",
		"a write 1", "b read 1",
		"b read 1", "a close 1",
		"b read 1", "a write 1",
		"b read 1", "a write 1", "a read 7",
		"b read 1", "a write 1", "a read 7", "a close 1",
		"b read 1", "a read 7", "a write 1",
	)
	wantSteps(t, l, 1, 7, 2, 5, 7, 5, 6)
	// All that waited goes through in one round, and what began in between has its turn in between.
	l, r = playFakes(4, writes(0, 1, 9), closes(0, 1), reads(0, 1, 1e9), writes(0, 1, 1), writes(0, -3, 1), closes(0, 1))
	wantCalls(t, r,
		"a write 1",
		"a write 1",
		"a write 1", "a close 1", "a read 1",
		"a read 1", "a write 1",
		"a read 1", "a write -3",
		"a read 1", "a write -3", "a close 1",
	)
	wantSteps(t, l, 2, 2, 6, 3, 6, 5)
	l, r = playFakes(4, writes(0, 1, 13), closes(0, 1), reads(0, -1, 1), closes(0, 1))
	wantCalls(t, r,
		"a write 1",
		"a write 1",
		"a write 1", "a read -1",
		"a write 1", "a close 1", "a read -1", "a close 1",
	)
	wantSteps(t, l, 3, 3, 4, 3)
}

// Which tasks wait for one another: of the same end and stream, those that read, and those that write or close.
func TestLanes(t *testing.T) {
	for _, c := range []struct {
		first, second api.Step
		waits         bool
	}{
		{writes(0, -1, 1), writes(0, -1, 1), true},
		{writes(0, -1, 1), closes(0, -1), true},
		{reads(0, -1, 1), reads(0, -1, 1), true},
		{reads(1, -1, 1), reads(1, -1, 0), true},
		{writes(0, -1, 1), reads(0, -1, 1), false},
		{reads(0, -1, 1), writes(0, -1, 1), false},
		{reads(0, -1, 1), closes(0, -1), false},
		{writes(0, -1, 1), writes(1, -1, 1), false},
		{reads(0, -1, 1), reads(1, -1, 1), false},
		{writes(0, -1, 1), writes(0, -3, 1), false},
		{writes(0, -1, 1), closes(0, 1), false},
		{reads(0, -1, 1), reads(0, -3, 1), false},
	} {
		_, r := playFakes(1, c.first, c.second)
		if waits := len(r.calls) == 2; waits != c.waits {
			t.Errorf("P19: %+v behind %+v: the calls are %q", c.second, c.first, r.calls)
		}
	}
}

// Only the worker whose turn it is works.
func TestOneAtATime(t *testing.T) {
	var script []api.Step
	for i := range 200 {
		script = append(script, writes(i%2, i%7, i), reads(i%2, i%5, i), closes(i%2, i%7), ticks(i))
	}
	if _, r := playFakes(3, script...); r.clash {
		t.Error("two calls were under way at the same time")
	}
}

// wantEnded asks that no more goroutines are there than so many. One that has said its last word may need a while to go, if the machine is busy.
func wantEnded(t *testing.T, before int) {
	t.Helper()
	for until := time.Now().Add(time.Minute); runtime.NumGoroutine() > before; time.Sleep(time.Millisecond) {
		if time.Now().After(until) {
			t.Fatalf("%d goroutines, %d ahead of the play", runtime.NumGoroutine(), before)
		}
	}
}

// All workers have ended: those that were over, that were cut under way, and that were cut while they waited.
func TestWorkersEnd(t *testing.T) {
	before := runtime.NumGoroutine()
	for n := range 50 {
		var script []api.Step
		for i := range n {
			script = append(script, writes(0, -1, i), reads(1, -3, i), writes(1, i, 1), closes(0, -1))
		}
		l, _ := playFakes(1, script...)
		wantEnded(t, before)
		for i, d := range l {
			if d.Step < i || d.Step > len(script) || (d.Err == api.ErrCut) != (d.Step == len(script)) {
				t.Errorf("P19: step %d: %+v", i, d)
			}
		}
	}
}

// No line is kept without a task, so that there are never many.
func TestLinesGo(t *testing.T) {
	r := &record{}
	p := &play{ends: [2]End{&fake{"a", 1, r}, &fake{"b", 1, r}}, dones: make([]api.Done, 300)}
	for i := range 300 {
		p.do(i, []api.Step{writes(0, i, 1), closes(1, i), reads(0, i, 0)}[i%3])
		p.giveTurns(i)
		if len(p.lines) != 0 {
			t.Fatalf("step %d: %d lines", i, len(p.lines))
		}
	}
	p.cutAll()
}

func TestPipe(t *testing.T) {
	var p pipe
	if b := p.cut(9); len(b) != 0 {
		t.Errorf("%q out of nothing", b)
	}
	if n := p.lay([]byte("abc")); n != 3 {
		t.Errorf("%d laid", n)
	}
	one := p.cut(1)
	p.lay([]byte("de"))
	two, none, three := p.cut(3), p.cut(0), p.cut(1<<40)
	if string(one) != "a" || string(two) != "bcd" || len(none) != 0 || string(three) != "e" {
		t.Errorf("%q, %q, %q, %q", one, two, none, three)
	}
}
