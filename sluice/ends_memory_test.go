package sluice_test

import (
	"bytes"
	"slices"
	"testing"
	"unsafe"

	"sluice/api"
)

// careful makes calls with lists that are written over as soon as the call is over, and writes over all that comes out, spare room too. What comes out is answered as a copy.
type careful struct{ *watched }

func (c careful) Open(l list, last bool) {
	c.t.Helper()
	whole, piece := roomyList(l)
	before := slices.Clone(whole)
	c.watched.Open(piece, last)
	if !slices.Equal(whole, before) {
		c.t.Errorf("P2: Open wrote into %q", l)
	}
	scribbleList(whole)
}

func (c careful) Write(s int, b []byte) {
	c.t.Helper()
	whole, piece := roomy(b)
	before := bytes.Clone(whole)
	c.watched.Write(s, piece)
	if !bytes.Equal(whole, before) {
		c.t.Errorf("P2: Write wrote into %q", b)
	}
	scribble(whole)
}

func (c careful) Feed(b []byte) {
	c.t.Helper()
	whole, piece := roomy(b)
	before := bytes.Clone(whole)
	c.watched.Feed(piece)
	if !bytes.Equal(whole, before) {
		c.t.Errorf("P2: Feed wrote into %q", b)
	}
	scribble(whole)
}

func (c careful) Take(n int) []byte {
	c.t.Helper()
	b := c.watched.Take(n)
	d := bytes.Clone(b)
	scribble(b)
	return d
}

func (c careful) Read(s, n int) {
	c.t.Helper()
	b, _, _ := c.watched.Read(s, n)
	scribble(b)
}

func (c careful) look() {
	c.t.Helper()
	for _, s := range c.e.Streams() {
		l, _ := c.e.Heads(s)
		scribbleList(l)
	}
	l := c.e.Streams()
	for i := range l[:cap(l)] {
		l[:cap(l)][i] = -7
	}
	c.watched.look()
}

// All that goes in and comes out is written over: no call must hang on that.
func TestEndsKeepNothing(t *testing.T) {
	r := chance()
	for range 60 {
		a, b := careful{watch(t, true, anyConfig(r))}, careful{watch(t, false, anyConfig(r))}
		var there, back []byte
		for range 80 {
			for _, c := range []careful{a, b} {
				s := oneOf(r, c.watched)
				switch r.IntN(5) {
				case 0:
					c.Open(anyList(r), r.IntN(3) == 0)
				case 1:
					c.Write(s, anyBytes(r, r.IntN(120)))
				case 2, 3:
					c.Read(s, r.IntN(20))
				}
				c.look()
			}
			there = append(there, a.Take(r.IntN(90))...)
			back = append(back, b.Take(r.IntN(90))...)
			n, m := r.IntN(len(there)+1), r.IntN(len(back)+1)
			b.Feed(there[:n])
			a.Feed(back[:m])
			there, back = there[n:], back[m:]
			if t.Failed() {
				t.FailNow()
			}
		}
	}
}

// The texts of a list that was opened with are written over, in the only way in which that can be done.
func TestOpenKeepsNoText(t *testing.T) {
	w := talking(t, true, plain(), 100)
	name, value := []byte("host"), []byte("eat")
	text := func(b []byte) string { return unsafe.String(&b[0], len(b)) }
	w.e.Open(list{h(text(name), text(value))}, false)
	scribble(name)
	scribble(value)
	if l, e := w.e.Heads(1); e != api.OK || !slices.Equal(l, list{h("host", "eat")}) {
		t.Errorf("P2: Heads(1) = %q, %d", l, e)
	}
	if b := w.e.Take(all); !bytes.Equal(b, headers(1, 4, 0x47, 0x82, 0x02, 0x1f)) {
		t.Errorf("P2: Take = %x", b)
	}
}

// Two answers of the same call, and answers of different calls, share nothing.
func TestEndsOwnLists(t *testing.T) {
	w := talking(t, false, plain(), 100)
	w.feeds(api.OK, headers(1, 4, 0x81, 0x82), headers(3, 4), ping(7), data(1, "abcdef"))
	w.writes(3, "ghi", 3)
	one, _ := w.e.Heads(1)
	two, _ := w.e.Heads(1)
	scribbleList(one)
	if !slices.Equal(two, list{h("path", "/"), h("path", "/index")}) {
		t.Errorf("P2: Heads(1) = %q", two)
	}
	s1, s2 := w.e.Streams(), w.e.Streams()
	clear(s1[:cap(s1)])
	if !slices.Equal(s2, []int{1, 3}) {
		t.Errorf("P2: Streams() = %v", s2)
	}
	r1, _, _ := w.e.Read(1, 2)
	r2, _, _ := w.e.Read(1, 2)
	t1 := w.e.Take(4)
	t2 := w.e.Take(4)
	scribble(r1)
	scribble(t1)
	if string(r2) != "cd" || !bytes.Equal(t2, pong(7)[4:8]) {
		t.Errorf("P2: %q, %x", r2, t2)
	}
	scribble(r2)
	scribble(t2)
	if b, _, _ := w.e.Read(1, 2); string(b) != "ef" {
		t.Errorf("P2: Read = %q", b)
	}
	if b := w.e.Take(all); !bytes.Equal(b, join(pong(7)[8:], credit(0, 6), credit(1, 6), data(3, "ghi"))) {
		t.Errorf("P2: Take = %x", b)
	}
}

// What is fed is written over in the middle of a frame, of a block and of a body.
func TestFeedKeepsNoPiece(t *testing.T) {
	b := said(nil)
	for size := 1; size < 60; size++ {
		c := careful{watch(t, false, plain())}
		for at := 0; at < len(b); at += size {
			c.Feed(b[at:min(len(b), at+size)])
		}
		c.look()
		c.Take(all)
		c.reads(1, all, "helloyou", true)
	}
}

// Ends have nothing to do with one another.
func TestEndsApart(t *testing.T) {
	a, b, c := talking(t, true, plain(), 100), talking(t, true, plain(), 100), talking(t, false, plain(), 100)
	a.opens(list{h("host", "eat")}, false, 1)
	a.writes(1, "one", 3)
	made := a.Take(all)
	b.opens(list{h("host", "eat")}, false, 1)
	b.writes(1, "one", 3)
	c.feeds(api.OK, made)
	b.takes(made)
	a.feeds(api.FaultOrder, heard())
	b.feeds(api.OK, credit(1, 5))
	b.look()
	c.look()
	c.reads(1, 9, "one", false)
}
