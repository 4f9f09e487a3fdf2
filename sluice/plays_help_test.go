package sluice_test

import (
	"bytes"
	"slices"
	"testing"

	"sluice/api"
	"sluice/sluice"
)

func doOpen(end int, l ...api.Header) api.Step {
	return api.Step{Kind: api.DoOpen, End: end, Heads: l}
}

func doOpenLast(end int, l ...api.Header) api.Step {
	return api.Step{Kind: api.DoOpen, End: end, Heads: l, Last: true}
}

func doWrite(end, s int, b string) api.Step {
	return api.Step{Kind: api.DoWrite, End: end, Stream: s, Bytes: []byte(b)}
}

func doClose(end, s int) api.Step { return api.Step{Kind: api.DoClose, End: end, Stream: s} }

func doRead(end, s, n int) api.Step {
	return api.Step{Kind: api.DoRead, End: end, Stream: s, N: n}
}

func doReset(end, s int) api.Step { return api.Step{Kind: api.DoReset, End: end, Stream: s} }

func doSet(end, n int) api.Step { return api.Step{Kind: api.DoSet, End: end, N: n} }

func doTick(end, n int) api.Step { return api.Step{Kind: api.DoTick, End: end, N: n} }

func doPut(end, n int) api.Step { return api.Step{Kind: api.DoPut, End: end, N: n} }

func doMove(end, n int) api.Step { return api.Step{Kind: api.DoMove, End: end, N: n} }

func doRaw(end int, l ...[]byte) api.Step {
	return api.Step{Kind: api.DoRaw, End: end, Bytes: join(l...)}
}

func doHeads(end, s int) api.Step { return api.Step{Kind: api.DoHeads, End: end, Stream: s} }

// scene is a step and what must become of it.
type scene struct {
	step api.Step
	want api.Done
}

// sameDone tells whether two results are the same. A list that the kind does not have, or that has nothing because of an error, must be nil.
func sameDone(kind int, got, want api.Done) bool {
	named := func(of int) bool { return kind == of && got.Err == api.OK }
	return got.Step == want.Step && got.N == want.N && got.Last == want.Last && got.Err == want.Err &&
		bytes.Equal(got.Bytes, want.Bytes) && (len(got.Bytes) > 0 || got.Bytes == nil || named(api.DoRead)) &&
		slices.Equal(got.Heads, want.Heads) && (len(got.Heads) > 0 || got.Heads == nil || named(api.DoHeads))
}

func wantDones(t *testing.T, script []api.Step, got, want []api.Done) {
	t.Helper()
	if len(got) != len(want) {
		t.Fatalf("P19: %d answers, want %d", len(got), len(want))
	}
	for i, d := range got {
		if !sameDone(script[i].Kind, d, want[i]) {
			t.Errorf("P19: step %d, %+v:\n%+v, want\n%+v", i, script[i], d, want[i])
		}
	}
}

func wantPlayOf(t *testing.T, a, b api.Config, l []scene) {
	t.Helper()
	var script []api.Step
	var want []api.Done
	for _, c := range l {
		script, want = append(script, c.step), append(want, c.want)
	}
	got, e := sluice.Play(a, b, script)
	if e != api.OK {
		t.Fatalf("P19: Play answers %d", e)
	}
	wantDones(t, script, got, want)
}

// wantPlay plays with ends of whose windows nothing is to be thought of.
func wantPlay(t *testing.T, l ...scene) {
	t.Helper()
	wantPlayOf(t, plain(), plain(), l)
}

// bothKnow has the steps 0 to 8, behind which both ends know the streams 1 and 2, and nothing is left to be made.
func bothKnow() []scene {
	return []scene{
		{doOpen(0), api.Done{Step: 0, N: 1}},
		{doOpen(1), api.Done{Step: 1, N: 2}},
		{doPut(0, all), api.Done{Step: 2, N: 7 + 10 + 6}},
		{doMove(0, all), api.Done{Step: 3, N: 23}},
		{doPut(1, all), api.Done{Step: 4, N: 10 + 6 + 6}},
		{doMove(1, all), api.Done{Step: 5, N: 22}},
		{doPut(0, all), api.Done{Step: 6, N: 6}},
		{doMove(0, all), api.Done{Step: 7, N: 6}},
		{doPut(0, all), api.Done{Step: 8}},
	}
}

// wantBehind plays what follows behind bothKnow: its first step is 9.
func wantBehind(t *testing.T, l ...scene) {
	t.Helper()
	wantPlay(t, append(bothKnow(), l...)...)
}

func text(n int) string {
	b := make([]byte, n)
	for i := range b {
		b[i] = byte('a' + i%26)
	}
	return string(b)
}
