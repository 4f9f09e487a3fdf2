// Package sluice: streams of bytes between two ends, by credit: see DOC.md.
package sluice

import "sluice/api"

// End is one end of a connection.
type End struct{}

// NewEnd makes an end (P9).
func NewEnd(first bool, c api.Config) (*End, api.Errno) { return nil, api.OK }

// Open opens a stream (P10).
func (e *End) Open(l []api.Header, last bool) (int, api.Errno) { return 0, api.OK }

// Write lays bytes down to be sent (P11).
func (e *End) Write(s int, b []byte) (int, api.Errno) { return 0, api.OK }

// Close says that nothing more is written (P11).
func (e *End) Close(s int) api.Errno { return api.OK }

// Read takes bytes that have come (P12).
func (e *End) Read(s int, n int) ([]byte, bool, api.Errno) { return nil, false, api.OK }

// Reset gives a stream up (P13).
func (e *End) Reset(s int) api.Errno { return api.OK }

// Set tells the initial window that is wanted from now on (P13).
func (e *End) Set(initial int) api.Errno { return api.OK }

// Tick lets time go by (P13).
func (e *End) Tick(n int) api.Errno { return api.OK }

// Take takes bytes for the other end (P14).
func (e *End) Take(n int) []byte { return nil }

// Feed takes in bytes of the other end (P15).
func (e *End) Feed(b []byte) api.Errno { return api.OK }

// Fault tells why the end is dead (P17).
func (e *End) Fault() api.Errno { return api.OK }

// Streams tells the streams that there are (P18).
func (e *End) Streams() []int { return nil }

// Heads tells a stream's pairs (P18).
func (e *End) Heads(s int) ([]api.Header, api.Errno) { return nil, api.OK }

// Windows tells what may be sent, and what may come (P18).
func (e *End) Windows(s int) (int, int, api.Errno) { return 0, 0, api.OK }

// Play plays two ends (P19).
func Play(a api.Config, b api.Config, script []api.Step) ([]api.Done, api.Errno) { return nil, api.OK }
