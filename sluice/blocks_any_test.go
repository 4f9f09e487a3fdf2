package sluice_test

import (
	"bytes"
	"math/rand/v2"
	"slices"
	"testing"

	"sluice/api"
)

// anyText is of few bytes, so that names and pairs come again, or of any.
func anyText(r *rand.Rand, most int) string {
	n := r.IntN(most + 1)
	if r.IntN(3) > 0 {
		n = r.IntN(3)
	}
	b := make([]byte, n)
	few := "eartb.-xX\xff"
	for i := range b {
		b[i] = few[r.IntN(len(few))]
		if n > 2 && r.IntN(4) == 0 {
			b[i] = byte(r.IntN(256))
		}
	}
	return string(b)
}

func anyList(r *rand.Rand) list {
	var l list
	fixed := newModel(0).numbered()
	for range r.IntN(9) {
		p := h("x"+anyText(r, 39), anyText(r, 40))
		switch r.IntN(5) {
		case 0:
			p = fixed[r.IntN(len(fixed))]
		case 1:
			p.Name = fixed[r.IntN(len(fixed))].Name
		case 2:
			p.Name = p.Name[1:] + "e"
		}
		l = append(l, p)
	}
	return l
}

// limitsOf is what P6 says of the limits that were told since the last block.
func limitsOf(told []int) []int {
	if len(told) == 0 {
		return nil
	}
	least, last := slices.Min(told), told[len(told)-1]
	if least < last {
		return []int{least, last}
	}
	return []int{last}
}

// Lists in any order, with limits in between: the blocks are the model's, and come back.
func TestAnyLists(t *testing.T) {
	r := chance()
	for range 300 {
		limit := r.IntN(257)
		p, u, m := newPacker(t, limit), newUnpacker(t, limit), newModel(limit)
		for range 60 {
			var told []int
			for r.IntN(4) == 0 {
				n := r.IntN(limit + 1)
				resize(t, p, n)
				told = append(told, n)
			}
			l := anyList(r)
			b, e := p.Pack(l)
			want := m.pack(limitsOf(told), l)
			if e != api.OK || !bytes.Equal(b, want) || p.Size() != m.size() {
				t.Fatalf("P7: limits %d, then %v, %q: %x, %d, Size %d, want %x, Size %d", limit, told, l, b, e, p.Size(), want, m.size())
			}
			back, e := u.Unpack(b)
			if e != api.OK || !slices.Equal(back, l) || u.Size() != m.size() {
				t.Fatalf("P8: Unpack(%x) = %q, %d, Size %d, want %q, Size %d", b, back, e, u.Size(), l, m.size())
			}
		}
	}
}

// checkUnpack holds an unpacker against the model, block by block, up to the first that is none.
func checkUnpack(t *testing.T, limit int, blocks ...[]byte) {
	t.Helper()
	u, m := newUnpacker(t, limit), newModel(limit)
	for _, b := range blocks {
		got, e := u.Unpack(b)
		want, right := m.unpack(b)
		if !right {
			if got != nil || e != api.FaultHeader {
				t.Errorf("P8: limit %d, %x is no block, but Unpack answers %q, %d", limit, b, got, e)
			}
			wantBroken(t, u, "81")
			return
		}
		if e != api.OK || !slices.Equal(got, want) || u.Size() != m.size() {
			t.Fatalf("P8: limit %d, Unpack(%x) = %q, %d, Size %d, want %q, Size %d", limit, b, got, e, u.Size(), want, m.size())
		}
	}
}

// bend changes, takes away or puts in a byte here and there.
func bend(r *rand.Rand, b []byte) []byte {
	b = bytes.Clone(b)
	for r.IntN(3) > 0 && len(b) > 0 {
		i := r.IntN(len(b))
		switch r.IntN(4) {
		case 0:
			b[i] ^= 1 << r.IntN(8)
		case 1:
			b[i] = byte(r.IntN(256))
		case 2:
			b = slices.Delete(b, i, i+1)
		case 3:
			b = slices.Insert(b, i, byte(r.IntN(256)))
		}
	}
	return b
}

func TestAnyBlocks(t *testing.T) {
	r := chance()
	for range 20000 {
		limit := r.IntN(257)
		m := newModel(limit)
		var blocks [][]byte
		for range r.IntN(4) + 1 {
			l := anyList(r)
			blocks = append(blocks, m.pack(nil, l[:min(len(l), 3)]))
		}
		last := len(blocks) - 1
		blocks[last] = bend(r, blocks[last])
		checkUnpack(t, limit, blocks...)
		checkUnpack(t, limit, anyBytes(r, r.IntN(12)))
	}
}

// All blocks of one and two bytes, and many of three.
func TestAllShortBlocks(t *testing.T) {
	ahead := unhex(t, "47 82 02 1f 40 01 78 00")
	for a := range 256 {
		checkUnpack(t, 128, ahead, []byte{byte(a)})
		for b := range 256 {
			checkUnpack(t, 128, ahead, []byte{byte(a), byte(b)})
			checkUnpack(t, 40, []byte{0x47, 0, byte(a), byte(b)})
		}
	}
}

func TestLongBlocks(t *testing.T) {
	for _, c := range []byte{0, 1, 0x20, 0x41, 0x81, 0xff} {
		checkUnpack(t, 256, bytes.Repeat([]byte{c}, 1<<20))
	}
	checkUnpack(t, 256, append(unhex(t, "47 7f ff ff 7f"), make([]byte, 1<<21+126)...))
	checkUnpack(t, 256, append(unhex(t, "47 ff ff ff 7f"), make([]byte, 1<<21+126)...))
}

func FuzzUnpack(f *testing.F) {
	for _, l := range someLists() {
		m := newModel(128)
		f.Add(128, m.pack(nil, l), m.pack([]int{0, 90}, l))
	}
	f.Fuzz(func(t *testing.T, limit int, a, b []byte) {
		checkUnpack(t, max(0, min(limit, 256)), a, b)
	})
}
