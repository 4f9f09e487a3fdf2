package ends

import (
	"cmp"
	"slices"

	"sluice/api"
)

// resetBy says who has reset a stream.
type resetBy int

const (
	byNone resetBy = iota
	byCall
	byFrame
)

type stream struct {
	account
	number    int
	heads     []api.Header
	last      bool // it was opened here with last
	shut      bool // Close was called for it
	announced bool
	sentAll   bool
	hasAll    bool
	reset     resetBy
	unread    []byte
	waiting   []byte // to be sent
}

func (s *stream) isReset() bool { return s.reset != byNone }

func (s *stream) isClosed() bool { return s.isReset() || s.sentAll && s.hasAll }

// streams are all that are known.
type streams struct {
	known map[int]*stream
	open  []*stream // those that are not closed, rising: no others are sent on or granted anything
}

func newStreams() streams { return streams{known: map[int]*stream{}} }

func (l *streams) add(s *stream) {
	l.known[s.number] = s
	l.open = append(l.open, s)
	slices.SortFunc(l.open, func(a, b *stream) int { return cmp.Compare(a.number, b.number) })
}

// settle is to be called when s may have been closed.
func (l *streams) settle(s *stream) {
	if s.isClosed() {
		l.open = slices.DeleteFunc(l.open, func(o *stream) bool { return o == s })
	}
}

// cut takes the first bytes off, at most n.
func cut(b *[]byte, n int) []byte {
	n = max(0, min(n, len(*b)))
	first := (*b)[:n:n]
	// What is left is copied, so that what is handed out shares nothing with it.
	*b = append([]byte(nil), (*b)[n:]...)
	return first
}
