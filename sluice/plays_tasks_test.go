package sluice_test

import (
	"math"
	"testing"

	"sluice/api"
)

// A write is taken in as many turns as it needs: at most 100 bytes wait, and 32 go with each Put. If the script ends earlier, it is cut with what was taken.
func TestTaskWriteInTurns(t *testing.T) {
	long := text(150)
	l := []scene{
		{doWrite(0, 1, long), api.Done{}}, // see below
		{doPut(0, all), api.Done{Step: 10, N: 6 + 32}},
		{doMove(0, all), api.Done{Step: 11, N: 38}},
		{doRead(1, 1, 32), api.Done{Step: 12, Bytes: []byte(long[:32])}},
		{doPut(1, all), api.Done{Step: 13, N: 10 + 10}},
		{doMove(1, all), api.Done{Step: 14, N: 20}},
		{doPut(0, all), api.Done{Step: 15, N: 6 + 32}},
		{doTick(0, 1), api.Done{Step: 16}},
	}
	taken := []int{100, 132, 132, 132, 132, 132, 150, 150}
	for i, n := range taken {
		l[0].want = api.Done{Step: 9 + i + 1, N: n, Err: api.ErrCut}
		if n == 150 {
			l[0].want = api.Done{Step: 15, N: 150}
		}
		wantBehind(t, l[:i+1]...)
	}
}

// A write that fits is over with its first turn, at the edge too.
func TestTaskWriteFits(t *testing.T) {
	wantBehind(t,
		scene{doWrite(0, 1, ""), api.Done{Step: 9}},
		scene{doWrite(0, 1, text(99)), api.Done{Step: 10, N: 99}},
		scene{doWrite(0, 1, ""), api.Done{Step: 11}},
		scene{doWrite(0, 1, "x"), api.Done{Step: 12, N: 1}},
		scene{doWrite(0, 1, ""), api.Done{Step: 13}}, // it has nothing left, though nothing fits
		scene{doWrite(1, 1, text(100)), api.Done{Step: 14, N: 100}},
		scene{doWrite(1, 2, text(101)), api.Done{Step: 18, N: 100, Err: api.ErrCut}},
		scene{doWrite(0, 1, "x"), api.Done{Step: 18, Err: api.ErrCut}},
		scene{doWrite(0, 2, "x"), api.Done{Step: 17, N: 1}},
	)
}

// Writes and closes of a stream that is unknown, reset or ended, with bytes and without.
func TestTaskWriteErrors(t *testing.T) {
	for _, b := range []string{"", "x", text(200)} {
		wantBehind(t,
			scene{doWrite(0, 3, b), api.Done{Step: 9, Err: api.ErrStream}},
			scene{doWrite(0, 0, b), api.Done{Step: 10, Err: api.ErrStream}},
			scene{doWrite(0, math.MinInt, b), api.Done{Step: 11, Err: api.ErrStream}},
			scene{doOpenLast(0), api.Done{Step: 12, N: 3}},
			scene{doWrite(0, 3, b), api.Done{Step: 13, Err: api.ErrEnded}},
			scene{doClose(0, 3), api.Done{Step: 14, Err: api.ErrEnded}},
			scene{doClose(0, 1), api.Done{Step: 15}},
			scene{doWrite(0, 1, b), api.Done{Step: 16, Err: api.ErrEnded}},
			scene{doClose(0, 1), api.Done{Step: 17, Err: api.ErrEnded}},
			scene{doReset(0, 2), api.Done{Step: 18}},
			scene{doWrite(0, 2, b), api.Done{Step: 19, Err: api.ErrReset}},
			scene{doClose(0, 2), api.Done{Step: 20, Err: api.ErrReset}},
			scene{doClose(0, 9), api.Done{Step: 21, Err: api.ErrStream}},
			scene{doPut(0, all), api.Done{Step: 22, N: 7 + 6 + 6}},
			scene{doMove(0, all), api.Done{Step: 23, N: 19}},
			scene{doWrite(1, 2, b), api.Done{Step: 24, Err: api.ErrReset}},
			scene{doRaw(0, heard()), api.Done{Step: 25, N: 6}},
			scene{doMove(0, all), api.Done{Step: 26, N: 6, Err: api.FaultOrder}},
			scene{doWrite(1, 1, b), api.Done{Step: 27, Err: api.ErrDead}},
			scene{doWrite(1, 9, b), api.Done{Step: 28, Err: api.ErrDead}},
			scene{doClose(1, 9), api.Done{Step: 29, Err: api.ErrDead}},
		)
	}
}

// A write under way whose stream is reset here, reset there, or whose end dies: N is what was taken till then. What waits behind it meets the same in the same round.
func TestTaskWriteGivesUp(t *testing.T) {
	wantBehind(t,
		scene{doWrite(0, 1, text(130)), api.Done{Step: 12, N: 100, Err: api.ErrReset}},
		scene{doWrite(0, 1, "x"), api.Done{Step: 12, Err: api.ErrReset}},
		scene{doClose(0, 1), api.Done{Step: 12, Err: api.ErrReset}},
		scene{doReset(0, 1), api.Done{Step: 12}},
	)
	wantBehind(t,
		scene{doWrite(0, 1, text(133)), api.Done{Step: 13, N: 132, Err: api.ErrReset}},
		scene{doPut(0, all), api.Done{Step: 10, N: 38}},
		scene{doReset(1, 1), api.Done{Step: 11}},
		scene{doPut(1, all), api.Done{Step: 12, N: 7}},
		scene{doMove(1, all), api.Done{Step: 13, N: 7}},
	)
	wantBehind(t,
		scene{doWrite(0, 1, text(130)), api.Done{Step: 12, N: 100, Err: api.ErrDead}},
		scene{doClose(0, 1), api.Done{Step: 12, Err: api.ErrDead}},
		scene{doRaw(1, goaway(0)), api.Done{Step: 11, N: 7}},
		scene{doMove(1, all), api.Done{Step: 12, N: 7, Err: api.ErrDead}},
	)
}

// Writes and closes of one stream are done in order: what is written behind a close is ErrEnded, not ahead of it.
func TestTaskWritesInOrder(t *testing.T) {
	wantBehind(t,
		scene{doWrite(0, 1, text(110)), api.Done{Step: 14, N: 110}},
		scene{doWrite(0, 1, "second"), api.Done{Step: 14, N: 6}},
		scene{doClose(0, 1), api.Done{Step: 14}},
		scene{doWrite(0, 1, "third"), api.Done{Step: 14, Err: api.ErrEnded}},
		scene{doClose(0, 1), api.Done{Step: 14, Err: api.ErrEnded}},
		scene{doPut(0, all), api.Done{Step: 14, N: 38}},
		scene{doRaw(1, credit(0, 500), credit(1, 500)), api.Done{Step: 15, N: 20}},
		scene{doMove(1, all), api.Done{Step: 16, N: 20}},
		scene{doPut(0, all), api.Done{Step: 17, N: 6 + 64 + 6 + 20}},
		scene{doMove(0, 38), api.Done{Step: 18, N: 38}},
		scene{doRead(1, 1, all), api.Done{Step: 22, Bytes: []byte(text(32)), Err: api.ErrCut}},
		scene{doPut(1, all), api.Done{Step: 20, N: 20}},
		scene{doMove(1, all), api.Done{Step: 21, N: 20}},
	)
}

// Reads of nothing: over at once, with Last if there is no more.
func TestTaskReadNothing(t *testing.T) {
	wantBehind(t,
		scene{doRead(0, 1, 0), api.Done{Step: 9}},
		scene{doRead(0, 3, 0), api.Done{Step: 10, Err: api.ErrStream}},
		scene{doRaw(1, data(1, "ab"), lastData(2, "")), api.Done{Step: 11, N: 14}},
		scene{doMove(1, all), api.Done{Step: 12, N: 14}},
		scene{doRead(0, 1, 0), api.Done{Step: 13}},
		scene{doRead(0, 2, 0), api.Done{Step: 14, Last: true}},
		scene{doRead(0, 2, 5), api.Done{Step: 15, Last: true}},
		scene{doRead(0, 1, -1), api.Done{Step: 16, Err: api.ErrArg}},
		scene{doRead(0, 3, -1), api.Done{Step: 17, Err: api.ErrArg}},
		scene{doRead(0, 1, math.MinInt), api.Done{Step: 18, Err: api.ErrArg}},
		scene{doRead(0, 1, 3), api.Done{Step: 21, Bytes: []byte("ab"), Err: api.ErrCut}},
		scene{doRead(0, 1, 0), api.Done{Step: 21, Err: api.ErrCut}},
	)
}

// Reads up to the end: Last is what Read says, with as many bytes as were wanted or with fewer.
func TestTaskReadToTheEnd(t *testing.T) {
	wantBehind(t,
		scene{doRead(0, 1, 6), api.Done{Step: 14, Bytes: []byte("abcdef")}},
		scene{doRead(0, 1, 2), api.Done{Step: 16, Bytes: []byte("gh")}},
		scene{doRead(0, 1, 3), api.Done{Step: 16, Bytes: []byte("ijk"), Last: true}},
		scene{doRaw(1, data(1, "abc"), data(1, "def"), data(1, "g"), lastData(1, "hijk")), api.Done{Step: 12, N: 9 + 9 + 7 + 10}},
		scene{doMove(1, 9), api.Done{Step: 13, N: 9}},
		scene{doMove(1, 9), api.Done{Step: 14, N: 9}},
		scene{doMove(1, 7), api.Done{Step: 15, N: 7}},
		scene{doMove(1, 10), api.Done{Step: 16, N: 10}},
		scene{doRead(0, 1, 1), api.Done{Step: 17, Last: true}},
	)
	wantBehind(t,
		scene{doRead(0, 1, math.MaxInt), api.Done{Step: 14, Bytes: []byte("abcd"), Last: true}},
		scene{doRead(0, 1, 1), api.Done{Step: 14, Last: true}},
		scene{doRead(0, 1, -1), api.Done{Step: 14, Err: api.ErrArg}},
		scene{doRaw(1, data(1, "abcd"), lastData(1, "")), api.Done{Step: 12, N: 16}},
		scene{doMove(1, 10), api.Done{Step: 13, N: 10}},
		scene{doMove(1, 6), api.Done{Step: 14, N: 6}},
	)
	// With all bytes that were wanted there, the end is not waited for.
	wantBehind(t,
		scene{doRead(0, 1, 4), api.Done{Step: 11, Bytes: []byte("abcd")}},
		scene{doRaw(1, data(1, "abcd"), lastData(1, "")), api.Done{Step: 10, N: 16}},
		scene{doMove(1, 10), api.Done{Step: 11, N: 10}},
		scene{doMove(1, 6), api.Done{Step: 12, N: 6}},
		scene{doRead(0, 1, 0), api.Done{Step: 13, Last: true}},
	)
}

// A read under way whose stream is reset, here or there, has the bytes that it had read.
func TestTaskReadReset(t *testing.T) {
	wantBehind(t,
		scene{doRead(0, 1, 9), api.Done{Step: 13, Bytes: []byte("ab"), Err: api.ErrReset}},
		scene{doRead(0, 1, 9), api.Done{Step: 13, Err: api.ErrReset}},
		scene{doRaw(1, data(1, "ab")), api.Done{Step: 11, N: 8}},
		scene{doMove(1, all), api.Done{Step: 12, N: 8}},
		scene{doReset(0, 1), api.Done{Step: 13}},
		scene{doRead(0, 1, 0), api.Done{Step: 14, Err: api.ErrReset}},
	)
	wantBehind(t,
		scene{doRead(0, 1, 9), api.Done{Step: 12, Bytes: []byte("ab"), Err: api.ErrReset}},
		scene{doRaw(1, data(1, "ab"), data(1, "cd"), resets(1)), api.Done{Step: 10, N: 8 + 8 + 7}},
		scene{doMove(1, 8), api.Done{Step: 11, N: 8}},
		scene{doMove(1, all), api.Done{Step: 12, N: 15}}, // cd is dropped
	)
}

// A read under way whose end dies: what came is read with the next turn, and the one behind that is ErrDead; but not if all came.
func TestTaskReadDead(t *testing.T) {
	for _, end := range []struct {
		bytes []byte
		fault api.Errno
	}{{heard(), api.FaultOrder}, {goaway(0), api.ErrDead}} {
		n := len(end.bytes)
		l := []scene{
			{doRead(0, 1, 9), api.Done{Step: 14, Bytes: []byte("abcd"), Err: api.ErrDead}},
			{doRead(0, 2, 9), api.Done{Step: 13, Bytes: []byte("ef"), Last: true}},
			{doRaw(1, data(1, "ab"), data(1, "cd"), lastData(2, "ef"), end.bytes), api.Done{Step: 11, N: 24 + n}},
			{doMove(1, 8), api.Done{Step: 12, N: 8}},
			{doMove(1, all), api.Done{Step: 13, N: 16 + n, Err: end.fault}},
			{doTick(0, 1), api.Done{Step: 14}},
			{doRead(0, 1, 9), api.Done{Step: 15, Err: api.ErrDead}},
			{doRead(0, 1, -1), api.Done{Step: 16, Err: api.ErrArg}},
		}
		wantBehind(t, l...)
		// At the end of the script that turn does not come.
		l[0].want = api.Done{Step: 14, Bytes: []byte("abcd"), Err: api.ErrCut}
		wantBehind(t, l[:5]...)
	}
	wantBehind(t,
		scene{doRead(0, 1, 9), api.Done{Step: 11, Err: api.ErrDead}},
		scene{doRaw(1, goaway(0)), api.Done{Step: 10, N: 7}},
		scene{doMove(1, all), api.Done{Step: 11, N: 7, Err: api.ErrDead}},
	)
}

// Reads wait for earlier reads of the same end and stream, whatever they want; and get the bytes in order.
func TestTaskReadsInOrder(t *testing.T) {
	wantBehind(t,
		scene{doRead(0, 1, 3), api.Done{Step: 16, Bytes: []byte("abc")}},
		scene{doRead(0, 1, 0), api.Done{Step: 16}},
		scene{doRead(0, 1, -1), api.Done{Step: 16, Err: api.ErrArg}},
		scene{doRead(0, 1, 2), api.Done{Step: 16, Bytes: []byte("de")}},
		scene{doRead(0, 1, 2), api.Done{Step: 18, Bytes: []byte("f"), Err: api.ErrCut}},
		scene{doRead(0, 1, -1), api.Done{Step: 18, Err: api.ErrCut}},
		scene{doRaw(1, data(1, "abcdef")), api.Done{Step: 15, N: 12}},
		scene{doMove(1, all), api.Done{Step: 16, N: 12}},
		scene{doRead(0, 1, 1), api.Done{Step: 18, Err: api.ErrCut}},
	)
}

// Tasks of other ends and streams, and of the other direction, are not waited for.
func TestTasksApart(t *testing.T) {
	wantBehind(t,
		scene{doWrite(0, 1, text(101)), api.Done{Step: 18, N: 100, Err: api.ErrCut}},
		scene{doRead(0, 1, 5), api.Done{Step: 18, Err: api.ErrCut}},
		scene{doRead(0, 2, 0), api.Done{Step: 11}},
		scene{doWrite(0, 2, "ab"), api.Done{Step: 12, N: 2}},
		scene{doClose(0, 2), api.Done{Step: 13}},
		scene{doRead(1, 1, 0), api.Done{Step: 14}},
		scene{doClose(1, 1), api.Done{Step: 15}},
		scene{doRead(0, 1, 0), api.Done{Step: 18, Err: api.ErrCut}},
		scene{doClose(0, 1), api.Done{Step: 18, Err: api.ErrCut}},
	)
}

// A task that is begun ahead of its stream does not wait for it.
func TestTaskAheadOfStream(t *testing.T) {
	wantPlay(t,
		scene{doRead(0, 1, 5), api.Done{Step: 0, Err: api.ErrStream}},
		scene{doWrite(0, 1, "ab"), api.Done{Step: 1, Err: api.ErrStream}},
		scene{doClose(0, 1), api.Done{Step: 2, Err: api.ErrStream}},
		scene{doOpen(0), api.Done{Step: 3, N: 1}},
		scene{doRead(0, 1, 5), api.Done{Step: 7, Err: api.ErrCut}},
		scene{doWrite(0, 1, "ab"), api.Done{Step: 5, N: 2}},
		scene{doClose(0, 1), api.Done{Step: 6}},
	)
}

// Fields of a step that its kind does not ask for mean nothing, and results that it does not name are nothing.
func TestPlayOnlyWhatIsNamed(t *testing.T) {
	with := func(s api.Step) api.Step {
		s.Last = true
		if s.Kind != api.DoOpen {
			s.Heads = list{h("a", "b")}
		}
		if s.Kind != api.DoWrite && s.Kind != api.DoRaw {
			s.Bytes = []byte("junk")
		}
		switch s.Kind {
		case api.DoOpen, api.DoSet, api.DoTick, api.DoPut, api.DoMove, api.DoRaw:
			s.Stream = 99
		}
		switch s.Kind {
		case api.DoOpen, api.DoWrite, api.DoClose, api.DoReset, api.DoRaw, api.DoHeads:
			s.N = -99
		}
		return s
	}
	wantBehind(t,
		scene{with(doWrite(0, 1, "abcd")), api.Done{Step: 9, N: 4}},
		scene{with(doClose(0, 1)), api.Done{Step: 10}},
		scene{with(doPut(0, all)), api.Done{Step: 11, N: 10}},
		scene{with(doMove(0, all)), api.Done{Step: 12, N: 10}},
		scene{with(doRead(1, 1, 2)), api.Done{Step: 13, Bytes: []byte("ab")}},
		scene{with(doRead(1, 1, 2)), api.Done{Step: 14, Bytes: []byte("cd"), Last: true}},
		scene{with(doHeads(1, 1)), api.Done{Step: 15}},
		scene{with(doSet(1, 5)), api.Done{Step: 16}},
		scene{with(doTick(1, 5)), api.Done{Step: 17}},
		scene{with(doReset(1, 1)), api.Done{Step: 18}},
		scene{with(doRaw(1, data(2, "ef"))), api.Done{Step: 19, N: 8}},
		scene{with(doMove(1, all)), api.Done{Step: 20, N: 8}},
		scene{with(doRead(0, 2, 3)), api.Done{Step: 25, Bytes: []byte("ef"), Err: api.ErrCut}},
		scene{with(doWrite(0, 2, text(101))), api.Done{Step: 25, N: 100, Err: api.ErrCut}},
		scene{with(doClose(0, 2)), api.Done{Step: 25, Err: api.ErrCut}},
		scene{with(doOpen(1, h("x", "y"))), api.Done{Step: 24, N: 4}},
	)
}
