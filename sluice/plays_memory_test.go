package sluice_test

import (
	"bytes"
	"slices"
	"testing"
	"unsafe"

	"sluice/api"
	"sluice/sluice"
)

func copyScript(l []api.Step) []api.Step {
	l = slices.Clone(l)
	for i := range l {
		l[i].Bytes, l[i].Heads = bytes.Clone(l[i].Bytes), slices.Clone(l[i].Heads)
	}
	return l
}

func sameScript(a, b []api.Step) bool {
	return slices.EqualFunc(a, b, func(s, o api.Step) bool {
		return s.Kind == o.Kind && s.End == o.End && s.Stream == o.Stream && s.N == o.N && s.Last == o.Last && bytes.Equal(s.Bytes, o.Bytes) && slices.Equal(s.Heads, o.Heads)
	})
}

// roomyScript lays a script and all lists of it into longer ones. The longer lists are answered too: they stand in whole.
func roomyScript(l []api.Step) (whole, piece []api.Step) {
	whole = slices.Clone(l)
	piece = append(slices.Clone(l), slices.Repeat([]api.Step{{Kind: api.DoOpen}}, 10)...)[:len(l)]
	for i, s := range l {
		whole[i].Bytes, piece[i].Bytes = roomy(s.Bytes)
		whole[i].Heads, piece[i].Heads = roomyList(s.Heads)
	}
	return whole, piece
}

func scribbleScript(l []api.Step) {
	l = l[:cap(l)]
	for i := range l {
		scribble(l[i].Bytes)
		scribbleList(l[i].Heads)
		l[i] = api.Step{Kind: -7, End: -7, Stream: -7, N: -7, Last: true}
	}
}

func copyDones(l []api.Done) []api.Done {
	l = slices.Clone(l)
	for i := range l {
		l[i].Bytes, l[i].Heads = bytes.Clone(l[i].Bytes), slices.Clone(l[i].Heads)
	}
	return l
}

// telling is a script by which every kind of step and task has something to tell.
func telling() []api.Step {
	return []api.Step{
		doOpen(0, h("path", "/"), h("x", "y")), doHeads(0, 1), doHeads(0, 1), doWrite(0, 1, text(150)), doRead(0, 1, 9), doPut(0, all), doMove(0, all),
		doRead(1, 1, 10), doRead(1, 1, 12), doHeads(1, 1), doHeads(1, 1), doPut(1, all), doMove(1, all), doPut(0, all), doMove(0, all),
		doRead(1, 1, 20), doRead(1, 1, 200), doRaw(0, data(1, "")), doMove(0, all), doClose(1, 1), doPut(1, all), doMove(1, all), doWrite(0, 1, text(90)),
	}
}

// What is handed in is not written into, its spare room neither; and when all of it is written over behind the call, the answer stays.
func TestPlayKeepsNothing(t *testing.T) {
	r := &author{Rand: chance()}
	scripts := [][]api.Step{telling(), nil}
	for range 100 {
		scripts = append(scripts, r.script(120, true))
	}
	for _, script := range scripts {
		want := copyDones(playAny(t, plain(), plain(), script))
		whole, piece := roomyScript(script)
		before, pieceBefore := copyScript(whole), copyScript(piece[:cap(piece)])
		got, e := sluice.Play(plain(), plain(), piece)
		if e != api.OK || !sameScript(whole, before) || !sameScript(piece[:cap(piece)], pieceBefore) {
			t.Fatalf("P2: Play answers %d, or wrote into its script", e)
		}
		scribbleScript(whole)
		scribbleScript(piece)
		wantDones(t, script, got, want)
		if t.Failed() {
			t.FailNow()
		}
	}
}

// Each list that came out is written over in turn, its spare room too: all others stay, and what was handed in, and the next play.
func TestPlayOwnsLists(t *testing.T) {
	script := telling()
	before := copyScript(script)
	want := copyDones(playAny(t, plain(), plain(), script))
	l, again := playAny(t, plain(), plain(), script), playAny(t, plain(), plain(), script)
	lists := 0
	for i := range l {
		if len(l[i].Bytes)+len(l[i].Heads) > 0 {
			lists++
		}
		scribble(l[i].Bytes)
		scribbleList(l[i].Heads)
		wantDones(t, script[i+1:], l[i+1:], want[i+1:])
		wantDones(t, script, again, want)
	}
	if lists != 8 {
		t.Errorf("%d lists came out, want 8", lists)
	}
	for i := range l[:cap(l)] {
		l[:cap(l)][i] = api.Done{Step: -7}
	}
	if !sameScript(script, before) {
		t.Error("P2: what Play answered shares memory with its script")
	}
	wantDones(t, script, again, want)
	wantDones(t, script, playAny(t, plain(), plain(), script), want)
}

// The texts of a list that was opened with are written over behind the play, in the only way in which that can be done.
func TestPlayKeepsNoText(t *testing.T) {
	name, value := []byte("host"), []byte("eat")
	pair := h(unsafe.String(&name[0], len(name)), unsafe.String(&value[0], len(value)))
	l := playAny(t, plain(), plain(), []api.Step{doOpen(0, pair), doHeads(0, 1), doPut(0, all), doMove(0, all), doHeads(1, 1)})
	scribble(name)
	scribble(value)
	for _, i := range []int{1, 4} {
		if !slices.Equal(l[i].Heads, list{h("host", "eat")}) {
			t.Errorf("P2: step %d tells %q", i, l[i].Heads)
		}
	}
}
