package sluice_test

import (
	"bytes"
	"testing"

	"sluice/api"
	"sluice/sluice"
)

// fed is what a reader told of all that it was fed.
type fed struct {
	frames []api.Frame
	fault  api.Errno
}

// feedPieces feeds a new reader piece by piece. With a fault the pieces behind it must tell it again, and nothing more.
func feedPieces(t *testing.T, pieces ...[]byte) fed {
	t.Helper()
	r := sluice.NewReader()
	var all fed
	for i, p := range pieces {
		l, e := r.Feed(p)
		if all.fault != api.OK && (l != nil || e != all.fault) {
			t.Errorf("P5: piece %d, behind the fault %d: %+v, %d", i, all.fault, l, e)
		}
		all.frames, all.fault = append(all.frames, l...), e
	}
	return all
}

func oneByOne(b []byte) [][]byte {
	var l [][]byte
	for i := range b {
		l = append(l, b[i:i+1])
	}
	return l
}

func wantFed(t *testing.T, what string, got, want fed) {
	t.Helper()
	if got.fault != want.fault || !sameFrames(got.frames, want.frames) {
		t.Errorf("P5: %s: %+v, want %+v", what, got, want)
	}
}

// wantStuck asks that a reader that met a fault tells it for ever.
func wantStuck(t *testing.T, r *sluice.Reader, fault api.Errno) {
	t.Helper()
	for _, b := range [][]byte{nil, {}, {0}, unhex(t, "00 02 00 01 00 01 68 69"), make([]byte, 200)} {
		if l, e := r.Feed(b); l != nil || e != fault {
			t.Errorf("P5: behind the fault %d, fed with %x: %+v, %d", fault, b, l, e)
		}
	}
}

// wantFaultAt feeds bytes of which the last is to be the fault, and none ahead of it.
func wantFaultAt(t *testing.T, b []byte, fault api.Errno) {
	t.Helper()
	r := sluice.NewReader()
	for i, c := range b[:len(b)-1] {
		if l, e := r.Feed([]byte{c}); l != nil || e != api.OK {
			t.Errorf("P5: byte %d of %x: %+v, %d, too early", i, b, l, e)
			return
		}
	}
	if l, e := r.Feed(b[len(b)-1:]); l != nil || e != fault {
		t.Errorf("P5: last byte of %x: %+v, %d, want nil, %d", b, l, e, fault)
	}
	wantStuck(t, r, fault)
}

func TestReaderExamples(t *testing.T) {
	r := sluice.NewReader()
	hi := api.Frame{Kind: api.Data, Flags: api.End, Stream: 1, Body: []byte("hi")}
	for _, c := range []struct {
		bytes string
		want  fed
	}{
		{"00 02 00 01 00 01 68", fed{}},
		{"69 00 00 09 07 00 00", fed{frames: []api.Frame{hi, {Kind: 9, Flags: 7}}}},
		{"00 01 02 00 00 00", fed{fault: api.FaultForm}},
		{"00 02 00 01 00 01 68 69", fed{fault: api.FaultForm}},
		{"", fed{fault: api.FaultForm}},
	} {
		l, e := r.Feed(unhex(t, c.bytes))
		wantFed(t, c.bytes, fed{l, e}, c.want)
	}
	wantFaultAt(t, unhex(t, "00 05 06 00 00 01"), api.FaultSize)
	wantFaultAt(t, unhex(t, "00 04 06 00 00 01 00 00 00 00"), api.FaultForm)
}

func TestReaderRight(t *testing.T) {
	for _, f := range rightFrames() {
		b := bytesOf(f)
		want := fed{frames: []api.Frame{f}}
		wantFed(t, "whole", feedPieces(t, b), want)
		wantFed(t, "byte by byte", feedPieces(t, oneByOne(b)...), want)
		for i := range b {
			wantFed(t, "cut short", feedPieces(t, b[:i]), fed{})
			wantFed(t, "in two", feedPieces(t, b[:i], b[i:]), want)
		}
	}
}

// Frames one behind the other tell the same, wherever they are cut.
func TestReaderCuts(t *testing.T) {
	frames := []api.Frame{
		{Kind: api.Data, Flags: api.End, Stream: 1, Body: []byte("hi")},
		{Kind: api.Data, Stream: 2},
		{Kind: 9, Flags: 7},
		{Kind: api.Headers, Flags: api.Last, Stream: 3, Body: []byte{0x81}},
		{Kind: api.Settings, Flags: api.Ack},
		{Kind: api.Credit, Stream: 1, Body: []byte{0, 0, 1, 0}},
		{Kind: api.Data, Flags: api.Padded, Stream: 1, Body: []byte{2, 'h', 0, 0}},
	}
	var right []byte
	for _, f := range frames {
		right = append(right, bytesOf(f)...)
	}
	for _, c := range []struct {
		behind string
		fault  api.Errno
	}{
		{"", api.OK},
		{"00 01 02 00 00", api.OK},
		{"00 01 02 00 00 00", api.FaultForm},
		{"00 41 09 00 00 00 00 00 09 00 00 00", api.FaultSize},
		{"00 02 00 08 00 01 01 01 00 00 09 00 00 00", api.FaultForm},
	} {
		all := append(bytes.Clone(right), unhex(t, c.behind)...)
		want := fed{frames, c.fault}
		wantFed(t, "byte by byte", feedPieces(t, oneByOne(all)...), want)
		for i := range len(all) + 1 {
			for j := i; j <= len(all); j++ {
				wantFed(t, "in three", feedPieces(t, all[:i], all[i:j], all[j:]), want)
			}
		}
	}
}

// Each head that there is, at the edges of stream and length: its fault comes with the sixth byte, or not at all.
func TestReaderEveryHead(t *testing.T) {
	for kind := range 256 {
		for _, flags := range []int{0, 1, 4, 8, 254, 255} {
			for _, stream := range []int{0, 1, 255, 256, 32767, 32768, 32769, 65535} {
				for _, length := range []int{0, 1, 2, 3, 4, 5, 63, 64, 65, 255, 256, 257, 260, 32768, 65535} {
					checkHead(t, length, kind, flags, stream)
				}
			}
		}
	}
}

func checkHead(t *testing.T, length, kind, flags, stream int) {
	t.Helper()
	head := layOut(length, kind, flags, stream, nil)
	if fault := headFault(length, kind, flags, stream); fault != api.OK {
		wantFaultAt(t, head, fault)
		return
	}
	if length == 0 && kind == api.Data && flags&8 != 0 {
		// The sixth byte is the frame's last as well, and there is no p.
		wantFaultAt(t, head, api.FaultForm)
		return
	}
	f := api.Frame{Kind: kind, Flags: flags, Stream: stream, Body: plainBody(length)}
	wantFed(t, "a right head", feedPieces(t, head, f.Body), fed{frames: []api.Frame{f}})
}

// Of a head with several faults it is FaultForm.
func TestReaderFirstFault(t *testing.T) {
	for _, s := range []string{"00 05 06 00 80 00", "ff ff 00 00 00 00", "00 05 04 00 00 01", "00 00 02 00 00 00", "00 41 ff 00 ff ff", "00 02 05 00 7f ff"} {
		wantFaultAt(t, unhex(t, s), api.FaultForm)
	}
}

func TestReaderWrongBody(t *testing.T) {
	for _, f := range wrongBodies() {
		wantFaultAt(t, bytesOf(f), api.FaultForm)
	}
}

// The frames ahead of a fault are told with it, in the one call that meets it, and those behind it are not.
func TestReaderAheadOfFault(t *testing.T) {
	ahead := rightFrames()
	var b []byte
	for _, f := range ahead {
		b = append(b, bytesOf(f)...)
	}
	behind := bytes.Clone(b)
	check := func(wrong []byte, fault api.Errno) {
		t.Helper()
		r := sluice.NewReader()
		l, e := r.Feed(bytes.Join([][]byte{b, wrong, behind}, nil))
		wantFed(t, "ahead of a fault", fed{l, e}, fed{ahead, fault})
		wantStuck(t, r, fault)
	}
	for _, f := range wrongBodies() {
		check(bytesOf(f), api.FaultForm)
	}
	check(unhex(t, "00 01 02 00 00 00"), api.FaultForm)
	check(unhex(t, "00 05 06 00 00 01"), api.FaultSize)
	check(unhex(t, "00 00 09 00 80 00"), api.FaultForm)
	check(unhex(t, "ff ff 09 00 00 00"), api.FaultSize)
}

func TestReaderNothing(t *testing.T) {
	r := sluice.NewReader()
	for _, b := range [][]byte{nil, {}, {0}, nil, {}} {
		if l, e := r.Feed(b); len(l) != 0 || e != api.OK {
			t.Errorf("P5: fed with %x: %+v, %d", b, l, e)
		}
	}
}
