package sluice_test

import (
	"bytes"
	"encoding/hex"
	"strings"
	"testing"

	"sluice/api"
)

// rule is a row of the document's table: what the head of a kind may be. A kind that has no row of its own may have any stream and any length.
type rule struct {
	zero, other bool // whether the stream may be 0, and another
	size        int  // the length that it must have, anyLength if there is none
	ackSize     int  // the same, with the flag 1
}

const anyLength = -1

func ruleOf(kind int) rule {
	rules := map[int]rule{
		api.Data:     {zero: false, other: true, size: anyLength, ackSize: anyLength},
		api.Headers:  {zero: false, other: true, size: anyLength, ackSize: anyLength},
		api.Reset:    {zero: false, other: true, size: 1, ackSize: 1},
		api.Settings: {zero: true, other: false, size: 4, ackSize: 0},
		api.Ping:     {zero: true, other: false, size: 4, ackSize: 4},
		api.Goaway:   {zero: true, other: false, size: 1, ackSize: 1},
		api.Credit:   {zero: true, other: true, size: 4, ackSize: 4},
		api.Continue: {zero: false, other: true, size: anyLength, ackSize: anyLength},
	}
	if r, ok := rules[kind]; ok {
		return r
	}
	return rule{zero: true, other: true, size: anyLength, ackSize: anyLength}
}

// headFault is what a reader must answer with the sixth byte of a head.
func headFault(length, kind, flags, stream int) api.Errno {
	r := ruleOf(kind)
	size := r.size
	if flags%2 == 1 {
		size = r.ackSize
	}
	switch {
	case stream > 32767, stream == 0 && !r.zero, stream != 0 && !r.other:
		return api.FaultForm
	case length > 64, size != anyLength && length != size:
		return api.FaultSize
	}
	return api.OK
}

// rightFrames has frames of each kind that are right, at the edges that the table names.
func rightFrames() []api.Frame {
	var l []api.Frame
	add := func(kind, flags, stream int, body ...byte) {
		l = append(l, api.Frame{Kind: kind, Flags: flags, Stream: stream, Body: body})
	}
	full := bytes.Repeat([]byte{0xa5}, 64)
	for _, flags := range []int{0, 1, 2, 4, 5, 16, 247} {
		add(api.Data, flags, 1)
		add(api.Data, flags, 258, full...)
	}
	for _, flags := range []int{8, 9, 255} {
		add(api.Data, flags, 1, 0)
		add(api.Data, flags, 1, 0, 7)
		add(api.Data, flags, 1, 1, 0)
		add(api.Data, flags, 1, 2, 'h', 0, 0)
		add(api.Data, flags, 32767, append([]byte{63}, make([]byte, 63)...)...)
		add(api.Data, flags, 32767, append([]byte{0}, full[1:]...)...)
	}
	for _, kind := range []int{api.Headers, api.Continue} {
		for _, flags := range []int{0, 1, 4, 5, 8, 255} {
			add(kind, flags, 1)
			add(kind, flags, 32767, full...)
		}
	}
	for _, flags := range []int{0, 1, 8, 255} {
		add(api.Reset, flags, 1, 0)
		add(api.Reset, flags, 32767, 255)
		add(api.Ping, flags, 0, 0, 0, 0, 0)
		add(api.Ping, flags, 0, 255, 255, 255, 255)
		add(api.Goaway, flags, 0, 0)
		add(api.Goaway, flags, 0, 255)
		add(api.Credit, flags, 0, 0, 0, 0, 1)
		add(api.Credit, flags, 1, 127, 255, 255, 255)
		add(api.Credit, flags, 32767, 1, 0, 0, 0)
	}
	for _, flags := range []int{0, 2, 8, 254} {
		add(api.Settings, flags, 0, 0, 0, 0, 0)
		add(api.Settings, flags, 0, 127, 255, 255, 255)
		add(api.Settings, flags|api.Ack, 0)
	}
	for _, kind := range []int{8, 9, 128, 255} {
		add(kind, 0, 0)
		add(kind, 255, 32767, full...)
		add(kind, 8, 1, 200)
	}
	return l
}

// wrongBodies has frames with a right head whose body is not as the table says.
func wrongBodies() []api.Frame {
	late := append([]byte{63}, make([]byte, 63)...)
	late[63] = 1
	early := append([]byte{63}, make([]byte, 63)...)
	early[1] = 1
	long := append([]byte{64}, make([]byte, 63)...)
	return []api.Frame{
		{Kind: api.Data, Flags: 8, Stream: 1},
		{Kind: api.Data, Flags: 255, Stream: 1},
		{Kind: api.Data, Flags: 8, Stream: 1, Body: []byte{1}},
		{Kind: api.Data, Flags: 9, Stream: 1, Body: []byte{1, 1}},
		{Kind: api.Data, Flags: 8, Stream: 1, Body: []byte{3, 0, 0}},
		{Kind: api.Data, Flags: 8, Stream: 1, Body: []byte{2, 'h', 0, 1}},
		{Kind: api.Data, Flags: 8, Stream: 1, Body: []byte{2, 'h', 1, 0}},
		{Kind: api.Data, Flags: 8, Stream: 1, Body: []byte{255, 0, 0}},
		{Kind: api.Data, Flags: 8, Stream: 1, Body: late},
		{Kind: api.Data, Flags: 8, Stream: 1, Body: early},
		{Kind: api.Data, Flags: 8, Stream: 1, Body: long},
		{Kind: api.Settings, Body: []byte{128, 0, 0, 0}},
		{Kind: api.Settings, Flags: 254, Body: []byte{255, 255, 255, 255}},
		{Kind: api.Credit, Body: []byte{0, 0, 0, 0}},
		{Kind: api.Credit, Stream: 1, Flags: 255, Body: []byte{0, 0, 0, 0}},
		{Kind: api.Credit, Stream: 1, Body: []byte{128, 0, 0, 0}},
		{Kind: api.Credit, Stream: 1, Body: []byte{255, 255, 255, 255}},
	}
}

// plainBody has no fault of its own in any kind, and is n bytes long.
func plainBody(n int) []byte {
	b := make([]byte, n)
	if n == 4 {
		b[3] = 1
	}
	return b
}

// layOut makes the bytes of any head and body, right or not.
func layOut(length, kind, flags, stream int, body []byte) []byte {
	return append([]byte{byte(length >> 8), byte(length), byte(kind), byte(flags), byte(stream >> 8), byte(stream)}, body...)
}

func bytesOf(f api.Frame) []byte { return layOut(len(f.Body), f.Kind, f.Flags, f.Stream, f.Body) }

func sameFrames(a, b []api.Frame) bool {
	if len(a) != len(b) {
		return false
	}
	for i, f := range a {
		g := b[i]
		if f.Kind != g.Kind || f.Flags != g.Flags || f.Stream != g.Stream || !bytes.Equal(f.Body, g.Body) {
			return false
		}
	}
	return true
}

func unhex(t *testing.T, s string) []byte {
	t.Helper()
	b, err := hex.DecodeString(strings.ReplaceAll(s, " ", ""))
	if err != nil {
		t.Fatal(err)
	}
	return b
}
