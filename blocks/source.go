package blocks

import "sluice/api"

// source is what is left to read of a block. If it is asked for more than that, it gives up by panic.
type source struct {
	rest []byte
}

func (s *source) take() byte { return s.takeBytes(1)[0] }

// takeBytes answers a piece of the block itself: whoever keeps it copies it.
func (s *source) takeBytes(n int) []byte {
	if n > len(s.rest) {
		panic(api.FaultHeader)
	}
	b := s.rest[:n]
	s.rest = s.rest[n:]
	return b
}

func (s *source) atEnd() bool { return len(s.rest) == 0 }

// has tells whether the next byte begins something of this form.
func (s *source) has(f form) bool { return !s.atEnd() && f.begins(s.rest[0]) }
