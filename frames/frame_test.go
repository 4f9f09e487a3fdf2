package frames

import (
	"reflect"
	"testing"

	"sluice/api"
)

func read(t *testing.T, b []byte) Frame {
	t.Helper()
	var r Reader
	for i, c := range b {
		f, ended := r.Take(c)
		if ended != (i == len(b)-1) {
			t.Fatalf("%x: byte %d: %v", b, i, f)
		}
		if ended {
			return f
		}
	}
	return nil
}

// Each kind is of a type of its own, with what it has as a field there.
func TestFrameTypes(t *testing.T) {
	for _, c := range []struct {
		frame api.Frame
		want  func(w whole) Frame
	}{
		{api.Frame{Kind: api.Data, Flags: 1, Stream: 1, Body: []byte("hi")}, func(w whole) Frame { return Data{w, []byte("hi")} }},
		{api.Frame{Kind: api.Data, Flags: 8, Stream: 1, Body: []byte("\x02hi\x00\x00")}, func(w whole) Frame { return Data{w, []byte("hi")} }},
		{api.Frame{Kind: api.Data, Flags: 8, Stream: 1, Body: []byte("\x02\x00\x00")}, func(w whole) Frame { return Data{w, []byte{}} }},
		{api.Frame{Kind: api.Headers, Flags: 4, Stream: 2, Body: []byte{0x81}}, func(w whole) Frame { return Headers{w, []byte{0x81}} }},
		{api.Frame{Kind: api.Reset, Stream: 3, Body: []byte{7}}, func(w whole) Frame { return Reset{w} }},
		{api.Frame{Kind: api.Settings, Body: []byte{0, 0, 1, 2}}, func(w whole) Frame { return Settings{w, 258} }},
		{api.Frame{Kind: api.Settings, Flags: 1}, func(w whole) Frame { return Settings{w, 0} }},
		{api.Frame{Kind: api.Ping, Body: []byte{255, 0, 0, 2}}, func(w whole) Frame { return Ping{w, 0xff000002} }},
		{api.Frame{Kind: api.Goaway, Body: []byte{9}}, func(w whole) Frame { return Goaway{w} }},
		{api.Frame{Kind: api.Credit, Stream: 4, Body: []byte{127, 255, 255, 255}}, func(w whole) Frame { return Credit{w, api.MaxNumber} }},
		{api.Frame{Kind: api.Continue, Stream: 2, Body: []byte{0x82}}, func(w whole) Frame { return Continue{w, []byte{0x82}} }},
		{api.Frame{Kind: 8, Flags: 255, Body: []byte{1}}, func(w whole) Frame { return Other{w} }},
		{api.Frame{Kind: 255, Body: []byte{1}}, func(w whole) Frame { return Other{w} }},
	} {
		f := read(t, Bytes(c.frame))
		if want := c.want(whole{c.frame}); !reflect.DeepEqual(f, want) {
			t.Errorf("%+v: read as %#v, want %#v", c.frame, f, want)
		}
		if !reflect.DeepEqual(f.Plain(), c.frame) {
			t.Errorf("%+v: plainly it is %+v", c.frame, f.Plain())
		}
	}
}

func TestHas(t *testing.T) {
	w := whole{api.Frame{Flags: api.Last | 2}}
	if !w.Has(api.Last) || w.Has(api.End) || w.Has(api.Padded) {
		t.Errorf("flags of %+v", w)
	}
}

func TestNumber(t *testing.T) {
	for _, n := range []uint32{0, 1, 255, 256, 0x01020304, 0xffffffff} {
		if b := Number(n); len(b) != 4 || number(b) != n {
			t.Errorf("%d: %x", n, b)
		}
	}
}
