// Package sluice: streams of bytes between two ends, by credit: see DOC.md.
package sluice

import (
	"sluice/api"
	"sluice/plays"
)

// Play plays two ends (P19).
func Play(a api.Config, b api.Config, script []api.Step) ([]api.Done, api.Errno) {
	first, err := NewEnd(true, a)
	if err != api.OK {
		return nil, err
	}
	second, err := NewEnd(false, b)
	if err != api.OK {
		return nil, err
	}
	return plays.Run(first, second, script), api.OK
}
