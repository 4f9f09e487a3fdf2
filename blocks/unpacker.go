package blocks

import "sluice/api"

// maxLimits is how many limits a block begins with at most.
const maxLimits = 2

// Unpacker makes lists of blocks.
type Unpacker struct {
	table    table
	maxLimit int // the greatest that a block may tell
}

// NewUnpacker makes an unpacker whose table has this limit, which must fit.
func NewUnpacker(limit int) Unpacker {
	return Unpacker{table: table{limit: limit}, maxLimit: limit}
}

// Size is what the table's pairs take up.
func (u *Unpacker) Size() int { return u.table.size }

// Unpack makes the list of a block. If b is none, it gives up by panic with FaultHeader; behind that the unpacker is of no use.
func (u *Unpacker) Unpack(b []byte) []api.Header {
	s := source{rest: b}
	for n := 0; n < maxLimits && s.has(toLimit); n++ {
		u.takeLimit(&s)
	}
	var l []api.Header
	for !s.atEnd() {
		l = append(l, u.takePair(&s))
		if !IsList(l) {
			panic(api.FaultHeader)
		}
	}
	return l
}

func (u *Unpacker) takeLimit(s *source) {
	limit := s.takeCount(s.take(), toLimit)
	if limit > u.maxLimit {
		panic(api.FaultHeader)
	}
	u.table.resize(limit)
}

func (u *Unpacker) takePair(s *source) api.Header {
	c := s.take()
	switch {
	case byNumber.begins(c):
		return u.table.pair(s.takeCount(c, byNumber))
	case toAdd.begins(c):
		h := u.takeTexts(s, s.takeCount(c, toAdd))
		u.table.add(h)
		return h
	case notToAdd.begins(c):
		return u.takeTexts(s, s.takeCount(c, notToAdd))
	}
	// A limit that may not stand here, or what begins with 0001 and means nothing.
	panic(api.FaultHeader)
}

// takeTexts reads the pair whose name is that of the pair of this number, or follows if it is 0.
func (u *Unpacker) takeTexts(s *source, number int) api.Header {
	var h api.Header
	if number > 0 {
		h.Name = u.table.pair(number).Name
	} else {
		h.Name = s.takeText()
	}
	h.Value = s.takeText()
	return h
}
