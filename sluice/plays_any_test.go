package sluice_test

import (
	"math/rand/v2"
	"runtime"
	"sync"
	"testing"
	"time"

	"sluice/api"
	"sluice/sluice"
)

// author makes scripts. It knows how many streams may be open by now, so that most steps are about one that is.
type author struct {
	*rand.Rand
	opens [2]int
}

func (r *author) stream() int {
	if r.IntN(30) == 0 {
		return r.IntN(12) - 1
	}
	if end := r.IntN(2); r.opens[end] > 0 {
		return max(r.IntN(r.opens[end]), r.IntN(r.opens[end]))*2 + 1 + end
	}
	return 1
}

// upTo is mostly small, and now and then as much as there is.
func (r *author) upTo(n int) int {
	if r.IntN(6) == 0 {
		return all
	}
	return r.IntN(n + 1)
}

// step is any step but DoRaw.
func (r *author) step() api.Step {
	end, s := r.IntN(2), r.stream()
	switch r.IntN(40) {
	case 0, 1:
		r.opens[end]++
		step := doOpen(end, anyList(r.Rand)...)
		step.Last = r.IntN(8) == 0
		return step
	case 2, 3, 4, 5, 6, 7:
		return doWrite(end, s, string(anyBytes(r.Rand, r.IntN(1+r.IntN(250)))))
	case 8:
		return doClose(end, s)
	case 9, 10, 11, 12, 13, 14, 15:
		return doRead(end, s, r.upTo(60))
	case 16:
		if r.IntN(3) == 0 {
			return doReset(end, s)
		}
		return doHeads(end, s)
	case 17:
		return doSet(end, r.IntN(60))
	case 18:
		return doTick(end, r.IntN(5))
	case 19:
		return r.wrong()
	case 20, 21, 22, 23, 24, 25, 26, 27, 28, 29:
		return doPut(end, r.upTo(150))
	}
	return doMove(end, r.upTo(150))
}

// wrong is a step that is mostly ErrArg or the like.
func (r *author) wrong() api.Step {
	s := r.step()
	switch r.IntN(4) {
	case 0:
		s.Kind = anyNumber(r.Rand)
	case 1:
		s.End = anyNumber(r.Rand)
	case 2:
		s.N = -r.IntN(5)
	case 3:
		s.Stream = anyNumber(r.Rand)
	}
	if s.Kind == api.DoRaw {
		s.Kind = 0
	}
	return s
}

// raw is bytes that break into what the ends say, mostly in whole frames.
func (r *author) raw() api.Step {
	s := max(1, r.stream())
	l := [][]byte{data(s, "raw"), lastData(s, ""), padded(s, 2, "x"), resets(s), credit(s, 5), credit(0, 9), ping(7), pong(1), oneFrame(200, 9, s, 1, 2), headers(s+2, 4), headers(s+2, 0), settings(9), heard(), goaway(1), anyBytes(r.Rand, 9)}
	return doRaw(r.IntN(2), l[min(r.IntN(len(l)), r.IntN(len(l)+5))])
}

func (r *author) script(n int, raw bool) []api.Step {
	r.opens = [2]int{}
	l := []api.Step{doOpen(0), doOpen(1), doPut(0, all), doMove(0, all), doPut(1, all), doMove(1, all)}
	if r.IntN(4) == 0 {
		l = nil
	} else {
		r.opens = [2]int{1, 1}
	}
	for len(l) < n {
		if raw && r.IntN(40) == 0 {
			l = append(l, r.raw())
		} else {
			l = append(l, r.step())
		}
	}
	return l
}

func playAny(t *testing.T, a, b api.Config, script []api.Step) []api.Done {
	t.Helper()
	l, e := sluice.Play(a, b, script)
	if e != api.OK {
		t.Fatalf("P19: Play answers %d", e)
	}
	return l
}

// Plays of any steps do as the plain player does.
func TestAnyPlays(t *testing.T) {
	r := &author{Rand: chance()}
	errs := map[api.Errno]int{}
	for round := range 1500 {
		a, b := anyConfig(r.Rand), anyConfig(r.Rand)
		script := r.script(1+r.IntN(200), round%2 == 0)
		got := playAny(t, a, b, script)
		wantDones(t, script, got, tell(newEnd(t, true, a), newEnd(t, false, b), script, func() {}))
		if t.Failed() {
			t.Fatalf("round %d, %+v, %+v", round, a, b)
		}
		for i, d := range got {
			if k := script[i].Kind; k == api.DoRead || k == api.DoWrite || k == api.DoMove {
				errs[d.Err]++
			}
		}
	}
	for _, e := range []api.Errno{api.OK, api.ErrArg, api.ErrStream, api.ErrEnded, api.ErrReset, api.ErrDead, api.ErrCut, api.FaultForm, api.FaultOrder} {
		if errs[e] == 0 {
			t.Errorf("no task and no move came to error %d", e)
		}
	}
}

// Steps whose numbers, lists and bytes are of any kind: no call panics, and each does as the plain player does.
func TestPlayAnyNumbers(t *testing.T) {
	r := &author{Rand: chance()}
	odd := func() int {
		if r.IntN(2) == 0 {
			return r.IntN(5) - 1
		}
		return anyNumber(r.Rand)
	}
	lists, _ := noLists()
	for range 2000 {
		var script []api.Step
		for range r.IntN(60) {
			s := api.Step{Kind: odd(), End: r.IntN(2), Stream: odd(), N: odd(), Last: r.IntN(2) == 0, Bytes: anyBytes(r.Rand, r.IntN(300)), Heads: lists[r.IntN(len(lists))]}
			if r.IntN(3) > 0 {
				s.Kind = 1 + r.IntN(11)
				s.Heads = anyList(r.Rand)
			}
			if r.IntN(9) == 0 {
				s.End = odd()
			}
			script = append(script, s)
		}
		a, b := anyConfig(r.Rand), anyConfig(r.Rand)
		got := playAny(t, a, b, script)
		wantDones(t, script, got, tell(newEnd(t, true, a), newEnd(t, false, b), script, func() {}))
		if t.Failed() {
			t.FailNow()
		}
	}
}

// A long script, with many tasks that wait and are cut, and one with many that go through, each behind the one ahead of it.
func TestPlayLong(t *testing.T) {
	const n = 30000
	script := []api.Step{doOpen(0), doWrite(0, 1, text(101))}
	for range n {
		script = append(script, doWrite(0, 1, "x"), doRead(0, 1, 1))
	}
	l := playAny(t, plain(), plain(), script)
	for i, d := range l[2:] {
		if d.Err != api.ErrCut || d.Step != len(script) || d.N != 0 || d.Bytes != nil {
			t.Fatalf("P19: step %d: %+v", i+2, d)
		}
	}
	script = append(script, doReset(0, 1))
	l = playAny(t, plain(), plain(), script)
	for i, d := range l[2 : len(l)-1] {
		if d.Err != api.ErrReset || d.Step != len(script)-1 {
			t.Fatalf("P19: step %d: %+v", i+2, d)
		}
	}
	long := text(1 << 20)
	script = []api.Step{doOpen(0), doWrite(0, 1, long), doRaw(0, []byte(long)), doMove(0, all), doPut(0, all)}
	l = playAny(t, plain(), plain(), script)
	if l[2].N != len(long) || l[3].N != len(long) || l[3].Err != api.FaultForm || l[1].N != 132 || l[1].Err != api.ErrCut {
		t.Errorf("P19: %+v", l)
	}
}

// The same play answers the same each time, however goroutines run, and whatever else is played meanwhile.
func TestPlaySame(t *testing.T) {
	r := &author{Rand: chance()}
	defer runtime.GOMAXPROCS(runtime.GOMAXPROCS(0))
	for round := range 30 {
		a, b := anyConfig(r.Rand), anyConfig(r.Rand)
		script := r.script(150, round%3 == 0)
		want := playAny(t, a, b, script)
		for _, n := range []int{1, 2, 8} {
			runtime.GOMAXPROCS(n)
			var all sync.WaitGroup
			for range 8 {
				all.Go(func() {
					got, _ := sluice.Play(a, b, script)
					for i := range want {
						if i >= len(got) || !sameDone(script[i].Kind, got[i], want[i]) {
							t.Errorf("P19: step %d is not the same again", i)
							return
						}
					}
				})
			}
			all.Wait()
		}
	}
}

// wantEnded asks that no more goroutines are there than so many. One that has said its last word may need a while to go, if the machine is busy.
func wantEnded(t *testing.T, before int) {
	t.Helper()
	for until := time.Now().Add(time.Minute); runtime.NumGoroutine() > before; time.Sleep(time.Millisecond) {
		if time.Now().After(until) {
			t.Fatalf("P19: %d goroutines, %d ahead of the play", runtime.NumGoroutine(), before)
		}
	}
}

// All goroutines have ended when Play answers, with tasks that are over, under way, and waiting.
func TestPlayLeavesNoGoroutine(t *testing.T) {
	r := &author{Rand: chance()}
	before := runtime.NumGoroutine()
	for range 200 {
		script := r.script(100, true)
		for range r.IntN(50) {
			script = append(script, doRead(0, 1, all), doWrite(1, 2, text(300)), doClose(1, 2))
		}
		playAny(t, plain(), plain(), script)
		wantEnded(t, before)
	}
}

// FuzzPlay plays any steps with any bytes in the pipes, and holds Play against the plain player.
func FuzzPlay(f *testing.F) {
	f.Add(uint64(1), []byte("more"))
	for i, c := range wrongFrames() {
		f.Add(uint64(i), join(c.ahead, c.wrong))
	}
	f.Fuzz(func(t *testing.T, seed uint64, raw []byte) {
		r := &author{Rand: rand.New(rand.NewPCG(seed, 1))}
		a, b := anyConfig(r.Rand), anyConfig(r.Rand)
		script := r.script(20, false)
		for len(raw) > 0 {
			n := r.IntN(min(len(raw), 100)) + 1
			script = append(script, doRaw(r.IntN(2), raw[:n]))
			raw = raw[n:]
			for range r.IntN(9) {
				script = append(script, r.step())
			}
		}
		wantDones(t, script, playAny(t, a, b, script), tell(newEnd(t, true, a), newEnd(t, false, b), script, func() {}))
	})
}
