package blocks

import (
	"strings"

	"sluice/api"
)

// Packer makes blocks of lists.
type Packer struct {
	table  table
	limits []int // that the next block begins with: none, the last, or the least and the last
}

// NewPacker makes a packer whose table has this limit, which must fit.
func NewPacker(limit int) Packer { return Packer{table: table{limit: limit}} }

// Size is what the table's pairs take up.
func (p *Packer) Size() int { return p.table.size }

// Resize tells a limit, which must fit, to the next block.
func (p *Packer) Resize(limit int) {
	least := limit
	if len(p.limits) > 0 {
		// The first of those that wait is the least of all that were told.
		least = min(p.limits[0], limit)
	}
	if least < limit {
		p.limits = []int{least, limit}
	} else {
		p.limits = []int{limit}
	}
}

// Pack makes a block of what must be a list.
func (p *Packer) Pack(l []api.Header) []byte {
	var b []byte
	for _, limit := range p.limits {
		b = appendCount(b, toLimit, limit)
		p.table.resize(limit)
	}
	p.limits = nil
	for _, h := range l {
		b = p.appendPair(b, h)
	}
	return b
}

func (p *Packer) appendPair(b []byte, h api.Header) []byte {
	if n := p.table.findPair(h); n > 0 {
		return appendCount(b, byNumber, n)
	}
	if room(h) > p.table.limit {
		return p.appendTexts(b, notToAdd, h)
	}
	b = p.appendTexts(b, toAdd, h)
	// What was handed in is not kept, its texts neither.
	p.table.add(api.Header{Name: strings.Clone(h.Name), Value: strings.Clone(h.Value)})
	return b
}

func (p *Packer) appendTexts(b []byte, f form, h api.Header) []byte {
	n := p.table.findName(h.Name)
	b = appendCount(b, f, n)
	if n == 0 {
		b = appendText(b, h.Name)
	}
	return appendText(b, h.Value)
}
