package sluice_test

import (
	"bytes"
	"math/rand/v2"
	"testing"

	"sluice/api"
	"sluice/sluice"
)

// chance makes numbers that are the same in every run.
func chance() *rand.Rand { return rand.New(rand.NewPCG(7, 11)) }

func anyBytes(r *rand.Rand, n int) []byte {
	b := make([]byte, n)
	for i := range b {
		// Mostly small bytes, for others are hardly ever a frame.
		b[i] = byte(r.IntN(256) >> r.IntN(9))
	}
	return b
}

func anyNumber(r *rand.Rand) int {
	n := int(r.Uint64() >> r.IntN(64))
	if r.IntN(4) == 0 {
		return -n
	}
	return n
}

// checkRead asks of any bytes: what is told is written as it was read, and pieces tell the same as the whole.
func checkRead(t *testing.T, b []byte, cut int) {
	t.Helper()
	whole := feedPieces(t, b)
	wantFed(t, "cut", feedPieces(t, b[:cut], b[cut:]), whole)
	var again []byte
	for _, f := range whole.frames {
		w, e := sluice.Write(f)
		if e != api.OK {
			t.Errorf("P4: %+v was read, but Write answers %d", f, e)
		}
		again = append(again, w...)
	}
	if !bytes.HasPrefix(b, again) {
		t.Errorf("P5: of %x frames are told that are written %x", b, again)
	}
	if f := whole.fault; f != api.OK && f != api.FaultForm && f != api.FaultSize {
		t.Errorf("P5: %x: fault %d", b, f)
	}
}

func TestAnyBytes(t *testing.T) {
	r := chance()
	for range 20000 {
		b := anyBytes(r, r.IntN(100))
		checkRead(t, b, r.IntN(len(b)+1))
	}
	checkRead(t, make([]byte, 1<<20), 1<<19)
	checkRead(t, bytes.Repeat([]byte{0, 0, 9, 0, 0, 0}, 1<<17), 1<<17+1)
}

func TestAnyFrame(t *testing.T) {
	r := chance()
	for range 100000 {
		f := api.Frame{Kind: anyNumber(r), Flags: anyNumber(r), Stream: anyNumber(r), Body: anyBytes(r, r.IntN(70))}
		b, e := sluice.Write(f)
		switch {
		case e == api.OK:
			wantFed(t, "written", feedPieces(t, b), fed{frames: []api.Frame{f}})
		case e != api.ErrArg || b != nil:
			t.Errorf("P1: Write(%+v) = %x, %d", f, b, e)
		}
	}
}

func FuzzFeed(f *testing.F) {
	for _, g := range append(rightFrames(), wrongBodies()...) {
		f.Add(bytesOf(g), 3)
	}
	f.Fuzz(func(t *testing.T, b []byte, cut int) {
		checkRead(t, b, max(0, min(cut, len(b))))
	})
}
