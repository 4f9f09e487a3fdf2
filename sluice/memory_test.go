package sluice_test

import (
	"bytes"
	"testing"

	"sluice/api"
	"sluice/sluice"
)

// roomy lays b into a longer list, and answers that one and the piece of it that is b: what stands behind the piece is its spare room.
func roomy(b []byte) (whole, piece []byte) {
	whole = append(bytes.Clone(b), bytes.Repeat([]byte{0xee}, 100)...)
	return whole, whole[:len(b)]
}

// scribble writes over all of a list, its spare room too.
func scribble(b []byte) {
	b = b[:cap(b)]
	for i := range b {
		b[i] = 0x5a
	}
}

func scribbleFrames(l []api.Frame) {
	l = l[:cap(l)]
	for i := range l {
		l[i] = api.Frame{Kind: -7, Flags: -7, Stream: -7, Body: []byte("scribble")}
	}
}

func copyOf(l []api.Frame) []api.Frame {
	var c []api.Frame
	for _, f := range l {
		f.Body = bytes.Clone(f.Body)
		c = append(c, f)
	}
	return c
}

func TestWriteLeavesBody(t *testing.T) {
	for _, f := range append(rightFrames(), wrongBodies()...) {
		whole, piece := roomy(f.Body)
		before := bytes.Clone(whole)
		f.Body = piece
		b, _ := sluice.Write(f)
		if !bytes.Equal(whole, before) {
			t.Fatalf("P2: Write wrote into %+v", f)
		}
		scribble(b)
		if !bytes.Equal(whole, before) {
			t.Fatalf("P2: what Write answered shares memory with %+v", f)
		}
	}
}

func TestWriteOwnsBytes(t *testing.T) {
	for _, f := range rightFrames() {
		want := bytesOf(f)
		whole, piece := roomy(f.Body)
		f.Body = piece
		one, _ := sluice.Write(f)
		two, _ := sluice.Write(f)
		scribble(one)
		three, _ := sluice.Write(f)
		scribble(whole)
		if !bytes.Equal(two, want) || !bytes.Equal(three, want) {
			t.Fatalf("P2: %x and %x, want %x", two, three, want)
		}
	}
}

// Every piece is written over as soon as it was fed: what was gathered must not hang on it.
func TestFeedKeepsNothing(t *testing.T) {
	frames := rightFrames()
	var all []byte
	for _, f := range frames {
		all = append(all, bytesOf(f)...)
	}
	for size := 1; size < 80; size++ {
		r := sluice.NewReader()
		var told []api.Frame
		for at := 0; at < len(all); at += size {
			whole, piece := roomy(all[at:min(at+size, len(all))])
			before := bytes.Clone(whole)
			l, e := r.Feed(piece)
			if e != api.OK || !bytes.Equal(whole, before) {
				t.Fatalf("P2: Feed wrote into what it was fed, or met %d", e)
			}
			scribble(whole)
			told = append(told, l...)
		}
		if !sameFrames(told, frames) {
			t.Fatalf("P2: pieces of %d: what was told hangs on what was fed", size)
		}
	}
}

func TestFeedLeavesWrongBytes(t *testing.T) {
	for _, f := range wrongBodies() {
		whole, piece := roomy(bytesOf(f))
		before := bytes.Clone(whole)
		r := sluice.NewReader()
		r.Feed(piece)
		r.Feed(piece)
		if !bytes.Equal(whole, before) {
			t.Fatalf("P2: Feed wrote into %x", piece)
		}
	}
}

// Each list that came out is written over in turn, its spare room too: all others must stay.
func TestFeedOwnsLists(t *testing.T) {
	frames := rightFrames()
	var all []byte
	for _, f := range frames {
		all = append(all, bytesOf(f)...)
	}
	whole, piece := roomy(all)
	before := bytes.Clone(whole)
	r := sluice.NewReader()
	first, _ := r.Feed(piece)
	second, _ := r.Feed(piece)
	for i := range first {
		scribble(first[i].Body)
		if !sameFrames(first[i+1:], frames[i+1:]) || !sameFrames(second, frames) {
			t.Fatalf("P2: the body of frame %d shares memory with another", i)
		}
	}
	scribbleFrames(first)
	if !sameFrames(second, frames) || !bytes.Equal(whole, before) {
		t.Fatal("P2: what was told shares memory with what was told later, or with what was fed")
	}
}

// What was told is written over while the reader is in the middle of a frame: what comes later must not hang on that, nor a fault.
func TestFeedLaterHangsOnNothing(t *testing.T) {
	f := api.Frame{Kind: api.Credit, Stream: 5, Body: []byte{0, 0, 2, 1}}
	b := bytesOf(f)
	for i := range b {
		r := sluice.NewReader()
		told, _ := r.Feed(append(bytes.Clone(b), b[:i]...))
		scribble(told[0].Body)
		scribbleFrames(told)
		if l, e := r.Feed(b[i:]); e != api.OK || !sameFrames(l, []api.Frame{f}) {
			t.Fatalf("P2: cut at %d: %+v, %d", i, l, e)
		}
	}
	r := sluice.NewReader()
	told, e := r.Feed(append(bytes.Clone(b), unhex(t, "00 05 06 00 00 01")...))
	kept := copyOf(told)
	r.Feed(b)
	if e != api.FaultSize || !sameFrames(told, kept) || !sameFrames(kept, []api.Frame{f}) {
		t.Fatalf("P5: ahead of a fault: %+v, %d", told, e)
	}
}

func TestReadersApart(t *testing.T) {
	b := bytesOf(api.Frame{Kind: api.Data, Stream: 1, Body: []byte("hi")})
	one, two := sluice.NewReader(), sluice.NewReader()
	one.Feed(b[:3])
	two.Feed(unhex(t, "00 01 02 00 00 00"))
	if l, e := two.Feed(b); l != nil || e != api.FaultForm {
		t.Errorf("P2: the reader with the fault: %+v, %d", l, e)
	}
	if l, e := one.Feed(b[3:]); len(l) != 1 || e != api.OK {
		t.Errorf("P2: the other reader: %+v, %d", l, e)
	}
}
