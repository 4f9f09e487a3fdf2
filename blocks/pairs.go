// Package blocks: lists of pairs, packed into blocks and unpacked again.
package blocks

import (
	"slices"

	"sluice/api"
)

// IsList tells whether there may be such a list.
func IsList(l []api.Header) bool {
	return len(l) <= api.MaxHeads && !slices.ContainsFunc(l, breaksPair)
}

func breaksPair(h api.Header) bool {
	return h.Name == "" || len(h.Name) > api.MaxText || len(h.Value) > api.MaxText
}

// LimitFits tells whether a table may have this limit.
func LimitFits(limit int) bool { return limit >= 0 && limit <= api.MaxTable }

// room is what a pair takes up.
func room(h api.Header) int { return len(h.Name) + len(h.Value) + api.Over }
