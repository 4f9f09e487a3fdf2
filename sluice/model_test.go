package sluice_test

import (
	"fmt"
	"slices"
	"strconv"
	"strings"

	"sluice/api"
)

type list = []api.Header

func h(name, value string) api.Header { return api.Header{Name: name, Value: value} }

// model is the document's section 'Blocks' once more, as plainly as can be: the table's pairs stand newest first, bits are texts of 0 and 1, and what is read is held against what would be written.
type model struct {
	limit, highest int
	pairs          list
}

func newModel(limit int) *model { return &model{limit: limit, highest: limit} }

func sizeOf(l list) int {
	n := 0
	for _, p := range l {
		n += len(p.Name) + len(p.Value) + 8
	}
	return n
}

func (m *model) size() int { return sizeOf(m.pairs) }

func (m *model) resize(limit int) {
	m.limit = limit
	for m.size() > limit {
		m.pairs = m.pairs[:len(m.pairs)-1]
	}
}

func (m *model) add(p api.Header) {
	all := append(list{p}, m.pairs...)
	for len(all) > 1 && sizeOf(all) > m.limit {
		all = all[:len(all)-1]
	}
	if sizeOf(all) > m.limit {
		all = nil
	}
	m.pairs = all
}

func (m *model) numbered() list {
	return append(list{h("path", "/"), h("path", "/index"), h("verb", "get"), h("verb", "put"), h("kind", "text"), h("kind", "bytes"), h("host", ""), h("length", "0")}, m.pairs...)
}

// modelCount lays out a count: mark has the first bits of its byte.
func modelCount(mark string, n int) []byte {
	k := 8 - len(mark)
	m := 1<<k - 1
	c, _ := strconv.ParseUint(mark+fmt.Sprintf("%0*b", k, min(n, m)), 2, 8)
	b := []byte{byte(c)}
	if n < m {
		return b
	}
	groups := []byte{byte((n - m) % 128)}
	for n = (n - m) / 128; n > 0; n /= 128 {
		groups[len(groups)-1] += 128
		groups = append(groups, byte(n%128))
	}
	return append(b, groups...)
}

// modelBits lays out a text in packed bits.
func modelBits(text string) []byte {
	var bits strings.Builder
	for _, c := range []byte(text) {
		if i := strings.IndexByte("etaoinsr", c); i >= 0 {
			fmt.Fprintf(&bits, "0%03b", i)
		} else if i := strings.IndexByte("bcdfghklmpuwy-/.", c); i >= 0 {
			fmt.Fprintf(&bits, "10%04b", i)
		} else {
			fmt.Fprintf(&bits, "11%08b", c)
		}
	}
	for bits.Len()%8 != 0 {
		bits.WriteByte('1')
	}
	var b []byte
	for s := bits.String(); s != ""; s = s[8:] {
		c, _ := strconv.ParseUint(s[:8], 2, 8)
		b = append(b, byte(c))
	}
	return b
}

func modelText(text string, packed bool) []byte {
	if packed {
		bits := modelBits(text)
		return append(modelCount("1", len(bits)), bits...)
	}
	return append(modelCount("0", len(text)), text...)
}

func modelShortText(text string) []byte {
	a, b := modelText(text, false), modelText(text, true)
	if len(b) < len(a) {
		return b
	}
	return a
}

func (m *model) pack(limits []int, l list) []byte {
	var b []byte
	for _, n := range limits {
		b = append(b, modelCount("001", n)...)
		m.resize(n)
	}
	for _, p := range l {
		if i := slices.Index(m.numbered(), p); i >= 0 {
			b = append(b, modelCount("1", i+1)...)
			continue
		}
		mark := "01"
		if sizeOf(list{p}) > m.limit {
			mark = "0000"
		}
		i := slices.IndexFunc(m.numbered(), func(q api.Header) bool { return q.Name == p.Name })
		b = append(b, modelCount(mark, i+1)...)
		if i < 0 {
			b = append(b, modelShortText(p.Name)...)
		}
		b = append(b, modelShortText(p.Value)...)
		if mark == "01" {
			m.add(p)
		}
	}
	return b
}

// modelTakeCount reads a count with these many first bits, and answers what is behind it.
func modelTakeCount(b []byte, mark string) (n int, rest []byte, ok bool) {
	if len(b) == 0 || !strings.HasPrefix(fmt.Sprintf("%08b", b[0]), mark) {
		return 0, nil, false
	}
	m := 1<<(8-len(mark)) - 1
	n = int(b[0]) % (m + 1)
	if n < m {
		return n, b[1:], true
	}
	for i, unit := 1, 1; i < len(b) && i <= 3; i, unit = i+1, unit*128 {
		n += int(b[i]%128) * unit
		if b[i] < 128 {
			return n, b[i+1:], slices.Equal(b[:i+1], modelCount(mark, n))
		}
	}
	return 0, nil, false
}

func modelTakeText(b []byte) (text string, rest []byte, ok bool) {
	if n, rest, ok := modelTakeCount(b, "0"); ok && n <= len(rest) {
		return string(rest[:n]), rest[n:], true
	}
	if n, rest, ok := modelTakeCount(b, "1"); ok && n <= len(rest) {
		text, ok := modelUnbits(rest[:n])
		return text, rest[n:], ok
	}
	return "", nil, false
}

// modelUnbits takes codes off as long as there are any, and then asks whether these bytes' packed bits are b.
func modelUnbits(b []byte) (string, bool) {
	var bits strings.Builder
	for _, c := range b {
		fmt.Fprintf(&bits, "%08b", c)
	}
	number := func(s string) int {
		n, _ := strconv.ParseUint(s, 2, 8)
		return int(n)
	}
	var text []byte
	for s := bits.String(); ; {
		switch {
		case strings.HasPrefix(s, "0") && len(s) >= 4:
			text, s = append(text, "etaoinsr"[number(s[1:4])]), s[4:]
		case strings.HasPrefix(s, "10") && len(s) >= 6:
			text, s = append(text, "bcdfghklmpuwy-/."[number(s[2:6])]), s[6:]
		case strings.HasPrefix(s, "11") && len(s) >= 10:
			text, s = append(text, byte(number(s[2:10]))), s[10:]
		default:
			return string(text), slices.Equal(modelBits(string(text)), b)
		}
	}
}

// unpack answers false if b is not to be unpacked; behind that the model is of no use.
func (m *model) unpack(b []byte) (l list, ok bool) {
	for range 2 {
		if n, rest, ok := modelTakeCount(b, "001"); ok {
			if n > m.highest {
				return nil, false
			}
			m.resize(n)
			b = rest
		}
	}
	for len(b) > 0 {
		var p api.Header
		if p, b, ok = m.takePair(b); !ok || len(l) == 8 {
			return nil, false
		}
		if p.Name == "" || len(p.Name) > 40 || len(p.Value) > 40 {
			return nil, false
		}
		l = append(l, p)
	}
	return l, true
}

func (m *model) takePair(b []byte) (p api.Header, rest []byte, ok bool) {
	if n, rest, ok := modelTakeCount(b, "1"); ok {
		if n == 0 || n > len(m.numbered()) {
			return p, nil, false
		}
		return m.numbered()[n-1], rest, true
	}
	for _, mark := range []string{"01", "0000"} {
		n, rest, ok := modelTakeCount(b, mark)
		if !ok {
			continue
		}
		if n > len(m.numbered()) {
			return p, nil, false
		}
		if n > 0 {
			p.Name = m.numbered()[n-1].Name
		} else if p.Name, rest, ok = modelTakeText(rest); !ok {
			return p, nil, false
		}
		if p.Value, rest, ok = modelTakeText(rest); ok && mark == "01" {
			m.add(p)
		}
		return p, rest, ok
	}
	return p, nil, false
}
