package sluice

import (
	"sluice/api"
	"sluice/ends"
)

// End is one end of a connection.
type End struct {
	in ends.End
}

// NewEnd makes an end (P9).
func NewEnd(first bool, c api.Config) (*End, api.Errno) {
	if !ends.ConfigFits(c) {
		return nil, api.ErrArg
	}
	return &End{in: ends.New(first, c)}, api.OK
}

// Open opens a stream (P10).
func (e *End) Open(l []api.Header, last bool) (int, api.Errno) { return e.in.Open(l, last) }

// Write lays bytes down to be sent (P11).
func (e *End) Write(s int, b []byte) (int, api.Errno) { return e.in.Write(s, b) }

// Close says that nothing more is written (P11).
func (e *End) Close(s int) api.Errno { return e.in.Close(s) }

// Read takes bytes that have come (P12).
func (e *End) Read(s int, n int) ([]byte, bool, api.Errno) { return e.in.Read(s, n) }

// Reset gives a stream up (P13).
func (e *End) Reset(s int) api.Errno { return e.in.Reset(s) }

// Set tells the initial window that is wanted from now on (P13).
func (e *End) Set(initial int) api.Errno { return e.in.Set(initial) }

// Tick lets time go by (P13).
func (e *End) Tick(n int) api.Errno { return e.in.Tick(n) }

// Take takes bytes for the other end (P14).
func (e *End) Take(n int) []byte { return e.in.Take(n) }

// Feed takes in bytes of the other end (P15).
func (e *End) Feed(b []byte) (fault api.Errno) {
	defer func() {
		if v := recover(); v != nil {
			fault = faultOf(v)
			e.in.Die(fault)
		}
	}()
	e.in.Feed(b)
	return e.in.Fault()
}

// Fault tells why the end is dead (P17).
func (e *End) Fault() api.Errno { return e.in.Fault() }

// Streams tells the streams that there are (P18).
func (e *End) Streams() []int { return e.in.Streams() }

// Heads tells a stream's pairs (P18).
func (e *End) Heads(s int) ([]api.Header, api.Errno) { return e.in.Heads(s) }

// Windows tells what may be sent, and what may come (P18).
func (e *End) Windows(s int) (int, int, api.Errno) { return e.in.Windows(s) }
