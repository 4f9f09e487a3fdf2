package sluice_test

import (
	"bytes"
	"math"
	"testing"

	"sluice/api"
	"sluice/sluice"
)

func wantRefused(t *testing.T, f api.Frame) {
	t.Helper()
	if b, e := sluice.Write(f); b != nil || e != api.ErrArg {
		t.Errorf("P4: Write of kind %d, flags %d, stream %d, %d bytes: %d bytes, %d, want nil, ErrArg", f.Kind, f.Flags, f.Stream, len(f.Body), len(b), e)
	}
}

func wantWritten(t *testing.T, f api.Frame) {
	t.Helper()
	if b, e := sluice.Write(f); e != api.OK || !bytes.Equal(b, bytesOf(f)) {
		t.Errorf("P4: Write(%+v) = %x, %d, want %x", f, b, e, bytesOf(f))
	}
}

func TestWriteExamples(t *testing.T) {
	for _, c := range []struct {
		f    api.Frame
		want string
	}{
		{api.Frame{Kind: api.Data, Flags: api.End, Stream: 1, Body: []byte("hi")}, "00 02 00 01 00 01 68 69"},
		{api.Frame{Kind: api.Data, Flags: api.Padded, Stream: 1, Body: []byte{2, 0x68, 0, 0}}, "00 04 00 08 00 01 02 68 00 00"},
		{api.Frame{Kind: 9, Flags: 7}, "00 00 09 07 00 00"},
		{api.Frame{Kind: api.Data, Stream: 258}, "00 00 00 00 01 02"},
	} {
		if b, e := sluice.Write(c.f); e != api.OK || !bytes.Equal(b, unhex(t, c.want)) {
			t.Errorf("P4: Write(%+v) = %x, %d, want %s", c.f, b, e, c.want)
		}
	}
	wantRefused(t, api.Frame{Kind: api.Credit, Body: []byte{0, 0, 0, 0}})
	wantRefused(t, api.Frame{Kind: api.Data, Flags: api.Padded, Stream: 1, Body: []byte{3, 0, 0}})
}

func TestWriteRight(t *testing.T) {
	for _, f := range rightFrames() {
		wantWritten(t, f)
	}
}

func TestWriteWrongBody(t *testing.T) {
	for _, f := range wrongBodies() {
		wantRefused(t, f)
	}
}

// Each kind with each length, at the streams' edges: what is right by the table is written, all else is refused.
func TestWriteEveryHead(t *testing.T) {
	for kind := range 256 {
		for _, flags := range []int{0, 1, 2, 4, 247} {
			for _, stream := range []int{0, 1, 256, 32767} {
				for length := range 67 {
					f := api.Frame{Kind: kind, Flags: flags, Stream: stream, Body: plainBody(length)}
					if headFault(length, kind, flags, stream) == api.OK {
						wantWritten(t, f)
					} else {
						wantRefused(t, f)
					}
				}
			}
		}
	}
}

// Numbers beyond their bounds must not pass as what is left of them in a byte or two.
func TestWriteOutOfBounds(t *testing.T) {
	for _, n := range []int{-1, 256, 257, 512 + 9, -256, math.MaxInt, math.MinInt, 1 << 32} {
		wantRefused(t, api.Frame{Kind: n, Stream: 1})
		wantRefused(t, api.Frame{Kind: n})
		wantRefused(t, api.Frame{Kind: 9, Flags: n})
		wantRefused(t, api.Frame{Kind: api.Data, Flags: n, Stream: 1})
	}
	for _, n := range []int{-1, 32768, 65535, 65536, 65537, -65535, math.MaxInt, math.MinInt, 1<<32 + 1} {
		for _, kind := range []int{api.Data, api.Headers, api.Continue, 9} {
			wantRefused(t, api.Frame{Kind: kind, Stream: n})
		}
		wantRefused(t, api.Frame{Kind: api.Reset, Stream: n, Body: []byte{0}})
		wantRefused(t, api.Frame{Kind: api.Credit, Stream: n, Body: plainBody(4)})
	}
	for _, n := range []int{65, 255, 256, 65535, 65536, 65536 + 1, 65536 + 4, 1 << 24} {
		for _, kind := range []int{api.Data, api.Headers, api.Continue, 9, 255} {
			wantRefused(t, api.Frame{Kind: kind, Stream: 1, Body: make([]byte, n)})
		}
		wantRefused(t, api.Frame{Kind: api.Ping, Body: make([]byte, n)})
		wantRefused(t, api.Frame{Kind: api.Goaway, Body: make([]byte, n)})
	}
}

// A length that two bytes don't hold must not pass as the bytes of several frames that are right.
func TestWriteLongBodyOfFrames(t *testing.T) {
	frames := bytes.Repeat([]byte{0, 0, 9, 0, 0, 0}, 20000)
	for _, n := range []int{65536, 65536 + 2, 65536 + 6, 65536 + 64} {
		wantRefused(t, api.Frame{Kind: 9, Body: frames[:n]})
		wantRefused(t, api.Frame{Kind: api.Data, Stream: 1, Body: frames[n%6 : n%6+n]})
	}
}
