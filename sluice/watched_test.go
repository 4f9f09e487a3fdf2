package sluice_test

import (
	"bytes"
	"slices"
	"testing"

	"sluice/api"
	"sluice/sluice"
)

// all is more than an end ever has to take or to read.
const all = 1 << 40

// watched is an end and its story: each call is made of both, and must answer the same.
type watched struct {
	t *testing.T
	e *sluice.End
	m *story
}

func newEnd(t *testing.T, first bool, c api.Config) *sluice.End {
	t.Helper()
	e, err := sluice.NewEnd(first, c)
	if e == nil || err != api.OK {
		t.Fatalf("P9: NewEnd(%v, %+v): %d", first, c, err)
	}
	return e
}

func watch(t *testing.T, first bool, c api.Config) *watched {
	t.Helper()
	return &watched{t, newEnd(t, first, c), newStory(first, c)}
}

func (w *watched) Open(l list, last bool) (int, api.Errno) {
	w.t.Helper()
	s, e := w.e.Open(l, last)
	if s2, e2 := w.m.open(l, last); s != s2 || e != e2 {
		w.t.Errorf("P10: Open(%q, %v) = %d, %d, want %d, %d", l, last, s, e, s2, e2)
	}
	return s, e
}

func (w *watched) Write(s int, b []byte) (int, api.Errno) {
	w.t.Helper()
	n, e := w.e.Write(s, b)
	if n2, e2 := w.m.write(s, b); n != n2 || e != e2 {
		w.t.Errorf("P11: Write(%d, %q) = %d, %d, want %d, %d", s, b, n, e, n2, e2)
	}
	return n, e
}

func (w *watched) Close(s int) api.Errno {
	w.t.Helper()
	e := w.e.Close(s)
	if e2 := w.m.close(s); e != e2 {
		w.t.Errorf("P11: Close(%d) = %d, want %d", s, e, e2)
	}
	return e
}

func (w *watched) Read(s, n int) ([]byte, bool, api.Errno) {
	w.t.Helper()
	b, last, e := w.e.Read(s, n)
	if b2, last2, e2 := w.m.read(s, n); !bytes.Equal(b, b2) || last != last2 || e != e2 || e != api.OK && b != nil {
		w.t.Errorf("P12: Read(%d, %d) = %q, %v, %d, want %q, %v, %d", s, n, b, last, e, b2, last2, e2)
	}
	return b, last, e
}

func (w *watched) Reset(s int) api.Errno {
	w.t.Helper()
	e := w.e.Reset(s)
	if e2 := w.m.reset(s); e != e2 {
		w.t.Errorf("P13: Reset(%d) = %d, want %d", s, e, e2)
	}
	return e
}

func (w *watched) Set(n int) api.Errno {
	w.t.Helper()
	e := w.e.Set(n)
	if e2 := w.m.set(n); e != e2 {
		w.t.Errorf("P13: Set(%d) = %d, want %d", n, e, e2)
	}
	return e
}

func (w *watched) Tick(n int) api.Errno {
	w.t.Helper()
	e := w.e.Tick(n)
	if e2 := w.m.tick(n); e != e2 {
		w.t.Errorf("P13: Tick(%d) = %d, want %d", n, e, e2)
	}
	return e
}

func (w *watched) Take(n int) []byte {
	w.t.Helper()
	b := w.e.Take(n)
	if b2 := w.m.take(n); !bytes.Equal(b, b2) {
		w.t.Errorf("P14: Take(%d) = %x, want %x", n, b, b2)
	}
	return b
}

func (w *watched) Feed(b []byte) api.Errno {
	w.t.Helper()
	e := w.e.Feed(b)
	if e2 := w.m.feed(b); e != e2 {
		w.t.Errorf("P15: Feed(%x) = %d, want %d", b, e, e2)
	}
	return e
}

// look asks for all that can be seen of an end without changing it.
func (w *watched) look() {
	w.t.Helper()
	if f := w.e.Fault(); f != w.m.fault {
		w.t.Errorf("P17: Fault() = %d, want %d", f, w.m.fault)
	}
	known := w.m.streams(true, true)
	if l := w.e.Streams(); !slices.Equal(l, known) {
		w.t.Errorf("P18: Streams() = %v, want %v", l, known)
	}
	for _, s := range append([]int{-2, -1, 0, 1, 2, 3, 4, 32766, 32767, 32768}, known...) {
		w.lookAt(s)
	}
}

func (w *watched) lookAt(s int) {
	w.t.Helper()
	l, e := w.e.Heads(s)
	if l2, e2 := w.m.heads(s); !slices.Equal(l, l2) || e != e2 || e != api.OK && l != nil {
		w.t.Errorf("P18: Heads(%d) = %q, %d, want %q, %d", s, l, e, l2, e2)
	}
	a, b, e := w.e.Windows(s)
	if a2, b2, e2 := w.m.windows(s); a != a2 || b != b2 || e != e2 {
		w.t.Errorf("P18: Windows(%d) = %d, %d, %d, want %d, %d, %d", s, a, b, e, a2, b2, e2)
	}
}

func (w *watched) Heads(s int) ([]api.Header, api.Errno) {
	w.t.Helper()
	w.lookAt(s)
	return w.e.Heads(s)
}
