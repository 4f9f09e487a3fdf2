package sluice_test

import (
	"math"
	"testing"

	"sluice/api"
	"sluice/sluice"
)

func TestPlayExample(t *testing.T) {
	c := api.Config{Initial: 5, Conn: 32, Batch: 1, Cap: 32}
	wantPlayOf(t, c, c, []scene{
		{doOpen(0), api.Done{Step: 0, N: 1}},
		{doWrite(0, 1, "hello world"), api.Done{Step: 1, N: 11}},
		{doClose(0, 1), api.Done{Step: 2}},
		{doPut(0, 1000), api.Done{Step: 3, N: 7 + 10 + 6 + (6 + 11)}},
		{doMove(0, 1000), api.Done{Step: 4, N: 40}},
		{doRead(1, 1, 100), api.Done{Step: 5, Bytes: []byte("hello world"), Last: true}},
	})
}

func TestPlayNothing(t *testing.T) {
	for _, script := range [][]api.Step{nil, {}} {
		if l, e := sluice.Play(plain(), plain(), script); len(l) != 0 || e != api.OK {
			t.Errorf("P19: an empty script: %v, %d", l, e)
		}
	}
}

// Play refuses just what NewEnd refuses, of a and of b.
func TestPlayConfigs(t *testing.T) {
	numbers := []int{math.MinInt, -1, 0, 1, 31, 32, 33, 1000, 1001, math.MaxInt}
	script := []api.Step{doOpen(0), doRead(0, 1, 5)}
	refused := 0
	for _, initial := range numbers {
		for _, conn := range numbers {
			for _, batch := range numbers {
				for _, most := range numbers {
					c := api.Config{Initial: initial, Conn: conn, Batch: batch, Cap: most}
					_, want := sluice.NewEnd(true, c)
					for _, pair := range [][2]api.Config{{c, plain()}, {plain(), c}, {c, c}} {
						l, e := sluice.Play(pair[0], pair[1], script)
						if e != want || (l == nil) != (want != api.OK) {
							t.Errorf("P19: %+v: %v, %d, want %d", pair, l, e, want)
						}
					}
					if want != api.OK {
						refused++
					}
				}
			}
		}
	}
	if refused == 0 {
		t.Error("no configuration was refused")
	}
}

// Which configuration is whose: of end 0 the first, of end 1 the second.
func TestPlayWhoseConfig(t *testing.T) {
	wantPlayOf(t, api.Config{Initial: 7, Conn: 40, Batch: 1, Cap: 40}, api.Config{Initial: 9, Conn: 32, Batch: 1, Cap: 32}, []scene{
		{doPut(0, all), api.Done{Step: 0, N: 7 + 10 + 10}}, // with a Credit of 8
		{doPut(1, all), api.Done{Step: 1, N: 10}},
		{doMove(1, all), api.Done{Step: 2, N: 10}},
		{doOpen(0), api.Done{Step: 3, N: 1}},
		{doWrite(0, 1, text(20)), api.Done{Step: 4, N: 20}},
		{doPut(0, all), api.Done{Step: 5, N: 6 + 6 + 6 + 9}},
		{doMove(0, all), api.Done{Step: 6, N: 27 + 27}},
		{doRead(1, 1, 9), api.Done{Step: 7, Bytes: []byte(text(9))}},
		{doWrite(1, 1, text(20)), api.Done{Step: 8, N: 20}},
		{doPut(1, all), api.Done{Step: 9, N: 6 + 10 + 10 + 6 + 7}},
	})
}

// A step of no end or of no kind is ErrArg at once, has nothing else, and changes nothing.
func TestPlayNoSuchStep(t *testing.T) {
	full := func(kind, end int) api.Step {
		return api.Step{Kind: kind, End: end, Stream: 1, N: 3, Last: true, Bytes: []byte("abc"), Heads: list{h("a", "b")}}
	}
	var l []scene
	add := func(kind, end int) { l = append(l, scene{full(kind, end), api.Done{Step: len(l), Err: api.ErrArg}}) }
	for kind := api.DoOpen; kind <= api.DoHeads; kind++ {
		for _, end := range []int{-1, 2, 3, -2, 256, 1 << 32, math.MaxInt, math.MinInt} {
			add(kind, end)
		}
	}
	for _, kind := range []int{0, -1, 12, 13, 257, 1<<32 + 1, math.MaxInt, math.MinInt} {
		for _, end := range []int{0, 1, 2, -1} {
			add(kind, end)
		}
	}
	l = append(l,
		scene{doMove(0, all), api.Done{Step: len(l)}},
		scene{doMove(1, all), api.Done{Step: len(l) + 1}},
		scene{doHeads(0, 1), api.Done{Step: len(l) + 2, Err: api.ErrStream}},
		scene{doOpen(0), api.Done{Step: len(l) + 3, N: 1}},
		scene{doOpen(1), api.Done{Step: len(l) + 4, N: 2}},
	)
	wantPlay(t, l...)
}

// A step that is wrong is a step: tasks have their turns behind it. The one here reads what came ahead of the fault with one turn, and meets ErrDead with the next.
func TestPlayTurnsBehindWrongSteps(t *testing.T) {
	for _, wrong := range []api.Step{{Kind: -5}, doRead(2, 1, 5), doPut(0, -1), doSet(0, -1), doMove(0, -1)} {
		err := api.ErrArg
		if wrong.Kind == api.DoSet {
			err = api.ErrDead
		}
		wantBehind(t,
			scene{doRead(0, 1, 9), api.Done{Step: 12, Bytes: []byte("ab"), Err: api.ErrDead}},
			scene{doRaw(1, data(1, "ab"), heard()), api.Done{Step: 10, N: 14}},
			scene{doMove(1, all), api.Done{Step: 11, N: 14, Err: api.FaultOrder}},
			scene{wrong, api.Done{Step: 12, Err: err}},
			scene{doTick(0, 1), api.Done{Step: 13}},
		)
	}
}

func TestPlayOpen(t *testing.T) {
	pairs := list{h("path", "/"), h("x", "y")}
	wantPlay(t,
		scene{doOpen(0, pairs...), api.Done{Step: 0, N: 1}},
		scene{doOpen(1), api.Done{Step: 1, N: 2}},
		scene{doOpen(0, h("", "")), api.Done{Step: 2, Err: api.ErrList}},
		scene{doOpenLast(0, h("a", "b")), api.Done{Step: 3, N: 3}},
		scene{doOpen(0), api.Done{Step: 4, N: 5}},
		scene{doOpen(0), api.Done{Step: 5, N: 7}},
		scene{doOpen(0), api.Done{Step: 6, Err: api.ErrMany}},
		scene{doOpen(0, make(list, 9)...), api.Done{Step: 7, Err: api.ErrList}},
		scene{doOpen(1, pairs...), api.Done{Step: 8, N: 4}},
		scene{doHeads(0, 1), api.Done{Step: 9, Heads: pairs}},
		scene{doHeads(0, 3), api.Done{Step: 10, Heads: list{h("a", "b")}}},
		scene{doHeads(0, 5), api.Done{Step: 11}},
		scene{doHeads(1, 1), api.Done{Step: 12, Err: api.ErrStream}},
		scene{doHeads(1, 4), api.Done{Step: 13, Heads: pairs}},
		scene{doHeads(0, 0), api.Done{Step: 14, Err: api.ErrStream}},
		scene{doHeads(0, math.MinInt), api.Done{Step: 15, Err: api.ErrStream}},
		scene{doPut(0, all), api.Done{Step: 16, N: 7 + 10 + (6 + 6) + (6 + 5) + 6 + 6}},
		scene{doMove(0, all), api.Done{Step: 17, N: 52}},
		scene{doHeads(1, 1), api.Done{Step: 18, Heads: pairs}},
		scene{doHeads(1, 3), api.Done{Step: 19, Heads: list{h("a", "b")}}},
		scene{doRead(1, 3, 5), api.Done{Step: 20, Last: true}}, // it was opened with last
		scene{doRead(1, 1, 5), api.Done{Step: 22, Err: api.ErrCut}},
	)
}

func TestPlayReset(t *testing.T) {
	wantBehind(t,
		scene{doReset(0, 3), api.Done{Step: 9, Err: api.ErrStream}},
		scene{doReset(0, -1), api.Done{Step: 10, Err: api.ErrStream}},
		scene{doReset(0, 1), api.Done{Step: 11}},
		scene{doReset(0, 1), api.Done{Step: 12, Err: api.ErrReset}},
		scene{doPut(0, all), api.Done{Step: 13, N: 7}},
		scene{doMove(0, all), api.Done{Step: 14, N: 7}},
		scene{doReset(1, 1), api.Done{Step: 15, Err: api.ErrReset}},
		scene{doClose(0, 2), api.Done{Step: 16}},
		scene{doClose(1, 2), api.Done{Step: 17}},
		scene{doPut(0, all), api.Done{Step: 18, N: 6}},
		scene{doMove(0, all), api.Done{Step: 19, N: 6}},
		scene{doPut(1, all), api.Done{Step: 20, N: 6}},
		scene{doReset(1, 2), api.Done{Step: 21, Err: api.ErrEnded}},
		scene{doReset(0, 2), api.Done{Step: 22}}, // what was put was not moved yet
		scene{doRaw(0, goaway(0)), api.Done{Step: 23, N: 7}},
		scene{doMove(0, all), api.Done{Step: 24, N: 7, Err: api.ErrDead}},
		scene{doReset(1, 3), api.Done{Step: 25, Err: api.ErrDead}},
	)
}

func TestPlaySetAndTick(t *testing.T) {
	wantBehind(t,
		scene{doSet(0, -1), api.Done{Step: 9, Err: api.ErrArg}},
		scene{doSet(0, 1001), api.Done{Step: 10, Err: api.ErrArg}},
		scene{doPut(0, all), api.Done{Step: 11}},
		scene{doSet(0, 1000), api.Done{Step: 12}},
		scene{doPut(0, all), api.Done{Step: 13, N: 10}},
		scene{doSet(1, 0), api.Done{Step: 14}},
		scene{doPut(1, all), api.Done{Step: 15, N: 10}},
		scene{doTick(0, -1), api.Done{Step: 16, Err: api.ErrArg}},
		scene{doTick(0, 999999), api.Done{Step: 17}},
		scene{doTick(0, 2), api.Done{Step: 18, Err: api.ErrArg}},
		scene{doTick(0, 1), api.Done{Step: 19}},
		scene{doTick(0, 1), api.Done{Step: 20, Err: api.ErrArg}},
		scene{doTick(0, 0), api.Done{Step: 21}},
		scene{doTick(1, 1000000), api.Done{Step: 22}},
		scene{doTick(1, math.MaxInt), api.Done{Step: 23, Err: api.ErrArg}},
		scene{doRaw(0, goaway(0)), api.Done{Step: 24, N: 7}},
		scene{doMove(0, all), api.Done{Step: 25, N: 17, Err: api.ErrDead}},
		scene{doSet(1, 5), api.Done{Step: 26, Err: api.ErrDead}},
		scene{doTick(1, 0), api.Done{Step: 27}},
	)
}

// Bytes go into a pipe and out of it in pieces of any length, in order, and each end has its own.
func TestPlayPutAndMove(t *testing.T) {
	wantPlay(t,
		scene{doMove(0, 5), api.Done{Step: 0}},
		scene{doPut(0, -1), api.Done{Step: 1, Err: api.ErrArg}},
		scene{doPut(0, math.MinInt), api.Done{Step: 2, Err: api.ErrArg}},
		scene{doPut(0, 0), api.Done{Step: 3}},
		scene{doMove(0, -1), api.Done{Step: 4, Err: api.ErrArg}},
		scene{doMove(0, math.MinInt), api.Done{Step: 5, Err: api.ErrArg}},
		scene{doMove(0, math.MaxInt), api.Done{Step: 6}},
		scene{doOpen(0, h("path", "/")), api.Done{Step: 7, N: 1}},
		scene{doPut(0, 3), api.Done{Step: 8, N: 3}},
		scene{doPut(1, 4), api.Done{Step: 9, N: 4}},
		scene{doMove(0, 2), api.Done{Step: 10, N: 2}},
		scene{doMove(0, -1), api.Done{Step: 11, Err: api.ErrArg}},
		scene{doMove(0, 0), api.Done{Step: 12}},
		scene{doPut(0, 20), api.Done{Step: 13, N: 20}},
		scene{doMove(0, 20), api.Done{Step: 14, N: 20}},
		scene{doHeads(1, 1), api.Done{Step: 15, Err: api.ErrStream}},
		scene{doPut(0, math.MaxInt), api.Done{Step: 16, N: 1}},
		scene{doPut(0, math.MaxInt), api.Done{Step: 17}},
		scene{doMove(0, 2), api.Done{Step: 18, N: 2}},
		scene{doHeads(1, 1), api.Done{Step: 19, Heads: list{h("path", "/")}}},
		scene{doMove(0, 9), api.Done{Step: 20}},
		scene{doMove(1, 9), api.Done{Step: 21, N: 4}},
		scene{doPut(1, 100), api.Done{Step: 22, N: 6 + 6}},
		scene{doMove(1, 100), api.Done{Step: 23, N: 12}},
		scene{doPut(0, 100), api.Done{Step: 24, N: 6}},
	)
}

// What was put is in the pipe, whatever its end does behind that.
func TestPlayPipeStays(t *testing.T) {
	wantBehind(t,
		scene{doWrite(0, 1, "abc"), api.Done{Step: 9, N: 3}},
		scene{doPut(0, all), api.Done{Step: 10, N: 9}},
		scene{doReset(0, 1), api.Done{Step: 11}},
		scene{doMove(0, all), api.Done{Step: 12, N: 9}},
		scene{doRead(1, 1, 9), api.Done{Step: 14, Bytes: []byte("abc"), Err: api.ErrCut}},
	)
}

// DoRaw: the bytes go behind what is in the pipe, and what is put goes behind them.
func TestPlayRawOrder(t *testing.T) {
	wantBehind(t,
		scene{doRaw(0), api.Done{Step: 9}},
		scene{doWrite(0, 1, "abc"), api.Done{Step: 10, N: 3}},
		scene{doPut(0, 4), api.Done{Step: 11, N: 4}},
		scene{doRaw(0, data(1, "abc")[4:], data(1, "de")), api.Done{Step: 12, N: 5 + 8}},
		scene{doPut(0, all), api.Done{Step: 13, N: 5}}, // behind that it has no form
		scene{doMove(0, 9+8), api.Done{Step: 14, N: 17}},
		scene{doRead(1, 1, 5), api.Done{Step: 15, Bytes: []byte("abcde")}},
		scene{doMove(0, 4), api.Done{Step: 16, N: 4}},
		scene{doMove(0, 4), api.Done{Step: 17, N: 1}},
		scene{doPut(1, all), api.Done{Step: 18, N: 10 + 10}},
	)
}

// Each fault by raw bytes: DoMove tells it, then and for ever; the bytes leave the pipe nevertheless.
func TestPlayRawFaults(t *testing.T) {
	for _, c := range []struct {
		bytes []byte
		fault api.Errno
	}{
		{resets(0)[:6], api.FaultForm},
		{unhex(t, "00 41 00 00 00 01"), api.FaultSize},
		{heard(), api.FaultOrder},
		{data(7, ""), api.FaultOrder},
		{data(1, xs(33)), api.FaultFlow},
		{headers(3, 4, 0x80), api.FaultHeader},
		{join(ping(1), ping(2), ping(3), ping(4), ping(5), ping(6), ping(7), ping(8), ping(9)), api.FaultCalm},
		{goaway(3), api.ErrDead},
	} {
		away := 7 // a Goaway is made, but not if one came
		if c.fault == api.ErrDead {
			away = 0
		}
		n := len(c.bytes)
		wantBehind(t,
			scene{doRaw(0, c.bytes, []byte("more")), api.Done{Step: 9, N: n + 4}},
			scene{doMove(0, n-1), api.Done{Step: 10, N: n - 1}},
			scene{doMove(0, 2), api.Done{Step: 11, N: 2, Err: c.fault}},
			scene{doMove(0, 0), api.Done{Step: 12, Err: c.fault}},
			scene{doMove(0, -1), api.Done{Step: 13, Err: api.ErrArg}},
			scene{doMove(0, all), api.Done{Step: 14, N: 3, Err: c.fault}},
			scene{doMove(0, all), api.Done{Step: 15, Err: c.fault}},
			scene{doOpen(1), api.Done{Step: 16, Err: api.ErrDead}},
			scene{doHeads(1, 1), api.Done{Step: 17}},
			scene{doPut(1, all), api.Done{Step: 18, N: away}},
			scene{doPut(1, all), api.Done{Step: 19}},
			scene{doOpen(0), api.Done{Step: 20, N: 3}},
		)
	}
}

// An end that is dead says so to the other, if it died by a fault.
func TestPlayRawGoaway(t *testing.T) {
	wantBehind(t,
		scene{doRaw(1, heard()), api.Done{Step: 9, N: 6}},
		scene{doMove(1, all), api.Done{Step: 10, N: 6, Err: api.FaultOrder}},
		scene{doPut(0, all), api.Done{Step: 11, N: 7}},
		scene{doMove(0, all), api.Done{Step: 12, N: 7, Err: api.ErrDead}},
		scene{doPut(1, all), api.Done{Step: 13}},
		scene{doOpen(0), api.Done{Step: 14, Err: api.ErrDead}},
		scene{doOpen(1), api.Done{Step: 15, Err: api.ErrDead}},
	)
}

// What came ahead of a fault can be read behind it, up to the end of it, or up to ErrDead.
func TestPlayRawRead(t *testing.T) {
	wantBehind(t,
		scene{doRaw(0, data(1, "abcdef"), lastData(2, "gh"), heard()), api.Done{Step: 9, N: 12 + 8 + 6}},
		scene{doMove(0, all), api.Done{Step: 10, N: 26, Err: api.FaultOrder}},
		scene{doRead(1, 1, 2), api.Done{Step: 11, Bytes: []byte("ab")}},
		scene{doRead(1, 1, 4), api.Done{Step: 12, Bytes: []byte("cdef")}},
		scene{doRead(1, 1, 1), api.Done{Step: 13, Err: api.ErrDead}},
		scene{doRead(1, 1, 0), api.Done{Step: 14, Err: api.ErrDead}},
		scene{doRead(1, 2, 9), api.Done{Step: 15, Bytes: []byte("gh"), Last: true}},
		scene{doRead(1, 2, 9), api.Done{Step: 16, Last: true}},
		scene{doRead(1, 3, 9), api.Done{Step: 17, Err: api.ErrStream}},
		scene{doRead(1, 1, -1), api.Done{Step: 18, Err: api.ErrArg}},
		scene{doWrite(1, 1, "x"), api.Done{Step: 19, Err: api.ErrDead}},
		scene{doClose(1, 1), api.Done{Step: 20, Err: api.ErrDead}},
		scene{doRead(0, 1, 1), api.Done{Step: 22, Err: api.ErrCut}},
	)
}
