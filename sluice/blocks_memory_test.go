package sluice_test

import (
	"bytes"
	"slices"
	"strings"
	"testing"
	"unsafe"

	"sluice/api"
)

// someLists has lists with pairs of each form, for tables of the limit 128.
func someLists() []list {
	return []list{
		{h("path", "/"), h("host", "eat")}, {h("host", "eat"), h("x", ""), h("x", "y")}, {}, {h("x", "y"), h("x", strings.Repeat("z", 40))},
		{h(strings.Repeat("n", 40), strings.Repeat("v", 40)), h("x", "y")}, {h("x", strings.Repeat("e", 40)), h(strings.Repeat("n", 40), strings.Repeat("v", 40))},
	}
}

// roomyList lays l into a longer list, and answers that one and the piece of it that is l.
func roomyList(l list) (whole, piece list) {
	whole = append(slices.Clone(l), slices.Repeat(list{h("spare", "room")}, 10)...)
	return whole, whole[:len(l)]
}

func scribbleList(l list) {
	l = l[:cap(l)]
	for i := range l {
		l[i] = h("scribble", "scribble")
	}
}

// Every list is written over as soon as it was packed, and every block too: those that come later must not hang on it.
func TestPackKeepsNothing(t *testing.T) {
	p, m := newPacker(t, 128), newModel(128)
	for round := range 3 {
		for _, l := range someLists() {
			whole, piece := roomyList(l)
			before := slices.Clone(whole)
			resize(t, p, 100+round)
			b, e := p.Pack(piece)
			if want := m.pack([]int{100 + round}, l); e != api.OK || !bytes.Equal(b, want) {
				t.Errorf("P2: Pack(%q) = %x, %d, want %x", l, b, e, want)
			}
			if !slices.Equal(whole, before) {
				t.Errorf("P2: Pack wrote into %q", l)
			}
			scribble(b)
			if !slices.Equal(whole, before) {
				t.Errorf("P2: what Pack answered shares memory with %q", l)
			}
			scribbleList(whole)
		}
	}
}

// The texts of a list that was packed are written over, in the only way in which that can be done.
func TestPackKeepsNoText(t *testing.T) {
	p := newPacker(t, 128)
	name, value := []byte("host"), []byte("eat")
	wantPacked(t, p, list{h(unsafe.String(&name[0], 4), unsafe.String(&value[0], 3))}, "47 82 02 1f", 15)
	scribble(name)
	scribble(value)
	wantPacked(t, p, list{h("host", "eat")}, "89", 15)
}

func TestPackLeavesWrongList(t *testing.T) {
	wrong, _ := noLists()
	p := newPacker(t, 128)
	for _, l := range wrong {
		whole, piece := roomyList(l)
		before := slices.Clone(whole)
		p.Pack(piece)
		if !slices.Equal(whole, before) {
			t.Errorf("P2: Pack wrote into %.100q", l)
		}
	}
}

// What was packed earlier stays as it is when later blocks are made, and written over.
func TestPackOwnsBlocks(t *testing.T) {
	p, m := newPacker(t, 128), newModel(128)
	var blocks, want [][]byte
	for range 3 {
		for _, l := range someLists() {
			b, _ := p.Pack(l)
			blocks, want = append(blocks, b), append(want, m.pack(nil, l))
		}
	}
	for i, b := range blocks {
		if !bytes.Equal(b, want[i]) {
			t.Errorf("P2: block %d is %x now, want %x", i, b, want[i])
		}
		scribble(b)
	}
}

func TestUnpackKeepsNothing(t *testing.T) {
	u, m := newUnpacker(t, 128), newModel(128)
	var told, want []list
	for range 3 {
		for _, l := range someLists() {
			whole, piece := roomy(m.pack([]int{100, 120}, l))
			before := bytes.Clone(whole)
			got, e := u.Unpack(piece)
			if e != api.OK || !slices.Equal(got, l) || !bytes.Equal(whole, before) {
				t.Errorf("P2: Unpack(%x) = %q, %d, want %q; and it is %x now", before, got, e, l, whole)
			}
			scribble(whole)
			if !slices.Equal(got, l) {
				t.Errorf("P2: %q hangs on the block", got)
			}
			told, want = append(told, got), append(want, l)
		}
	}
	for i, l := range told {
		if !slices.Equal(l, want[i]) {
			t.Errorf("P2: list %d is %q now, want %q", i, l, want[i])
		}
		scribbleList(l)
	}
}

// Every list is written over as soon as it came out, its spare room too: those that come later must not hang on it.
func TestUnpackOwnsLists(t *testing.T) {
	u, m := newUnpacker(t, 128), newModel(128)
	for range 3 {
		for _, l := range someLists() {
			got, e := u.Unpack(m.pack(nil, l))
			if e != api.OK || !slices.Equal(got, l) || u.Size() != m.size() {
				t.Errorf("P2: %q, %d, Size %d, want %q, Size %d", got, e, u.Size(), l, m.size())
			}
			scribbleList(got)
		}
	}
}

// The fixed pairs are the same for all objects, whatever is done to a list in which they came out.
func TestFixedStay(t *testing.T) {
	for range 3 {
		l, _ := newUnpacker(t, 128).Unpack(unhex(t, "81 82 83 84 85 86 87 88"))
		if !slices.Equal(l, newModel(0).numbered()) {
			t.Errorf("P2: the fixed pairs are %q now", l)
		}
		scribbleList(l)
	}
}

func TestUnpackLeavesWrongBytes(t *testing.T) {
	u := newUnpacker(t, 128)
	for range 2 {
		whole, piece := roomy(unhex(t, "47 82 02 1f 40 01 78 00 10"))
		before := bytes.Clone(whole)
		u.Unpack(piece)
		if !bytes.Equal(whole, before) {
			t.Errorf("P2: Unpack wrote into %x", before)
		}
	}
}

func TestPackersApart(t *testing.T) {
	one, two := newPacker(t, 128), newPacker(t, 128)
	wantPacked(t, one, list{h("x", "")}, "40 01 78 00", 9)
	resize(t, one, 9)
	wantPacked(t, two, list{h("x", "")}, "40 01 78 00", 9)
	wantPacked(t, two, list{h("y", "")}, "40 01 79 00", 18)
	wantPacked(t, one, list{h("x", "")}, "29 89", 9)
	good, bad := newUnpacker(t, 128), newUnpacker(t, 128)
	wantUnpacked(t, good, "40 01 78 00", list{h("x", "")}, 9)
	wantBroken(t, bad, "89")
	wantUnpacked(t, good, "89", list{h("x", "")}, 9)
}
