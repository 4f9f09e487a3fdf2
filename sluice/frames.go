package sluice

import (
	"sluice/api"
	"sluice/frames"
)

// Write makes a frame's bytes (P4).
func Write(f api.Frame) ([]byte, api.Errno) {
	if !frames.Fits(f) {
		return nil, api.ErrArg
	}
	b := frames.Bytes(f)
	// A frame is right if its bytes can be read: so the rules of the kinds stand in one place only.
	if _, fault := NewReader().Feed(b); fault != api.OK {
		return nil, api.ErrArg
	}
	return b, api.OK
}

// Reader reads frames out of bytes that come piece by piece.
type Reader struct {
	in    frames.Reader
	fault api.Errno
}

// NewReader makes a reader (P5).
func NewReader() *Reader { return &Reader{} }

// Feed reads more bytes (P5).
func (r *Reader) Feed(b []byte) (told []api.Frame, fault api.Errno) {
	if r.fault != api.OK {
		return nil, r.fault
	}
	defer func() {
		if v := recover(); v != nil {
			fault = faultOf(v)
			// Nothing is read behind a fault, so the bytes that were gathered go.
			*r = Reader{fault: fault}
		}
	}()
	for _, c := range b {
		if f, ended := r.in.Take(c); ended {
			told = append(told, f.Plain())
		}
	}
	return told, api.OK
}

// faultOf tells the fault with which something inside gave up. Any other value is a mistake of the program itself, and must not pass for a fault.
func faultOf(v any) api.Errno { return v.(api.Errno) }
