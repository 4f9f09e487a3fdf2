package sluice

import (
	"sluice/api"
	"sluice/blocks"
)

// Packer makes blocks.
type Packer struct {
	in blocks.Packer
}

// NewPacker makes a packer (P6).
func NewPacker(limit int) (*Packer, api.Errno) {
	if !blocks.LimitFits(limit) {
		return nil, api.ErrArg
	}
	return &Packer{in: blocks.NewPacker(limit)}, api.OK
}

// Resize tells the table's next limit (P6).
func (p *Packer) Resize(limit int) api.Errno {
	if !blocks.LimitFits(limit) {
		return api.ErrArg
	}
	p.in.Resize(limit)
	return api.OK
}

// Pack makes a block of a list of pairs (P7).
func (p *Packer) Pack(l []api.Header) ([]byte, api.Errno) {
	if !blocks.IsList(l) {
		return nil, api.ErrList
	}
	return p.in.Pack(l), api.OK
}

// Size tells what the table's pairs take up (P6).
func (p *Packer) Size() int { return p.in.Size() }

// Unpacker reads blocks.
type Unpacker struct {
	in     blocks.Unpacker
	broken bool
}

// NewUnpacker makes an unpacker (P8).
func NewUnpacker(limit int) (*Unpacker, api.Errno) {
	if !blocks.LimitFits(limit) {
		return nil, api.ErrArg
	}
	return &Unpacker{in: blocks.NewUnpacker(limit)}, api.OK
}

// Unpack reads a block (P8).
func (u *Unpacker) Unpack(b []byte) (l []api.Header, fault api.Errno) {
	if u.broken {
		return nil, api.FaultHeader
	}
	defer func() {
		if v := recover(); v != nil {
			fault = faultOf(v)
			// Nothing is unpacked behind a fault, so the table goes.
			*u = Unpacker{broken: true}
		}
	}()
	return u.in.Unpack(b), api.OK
}

// Size tells what the table's pairs take up (P8).
func (u *Unpacker) Size() int { return u.in.Size() }
