package sluice_test

import (
	"bytes"
	"math"
	"slices"
	"strings"
	"testing"

	"sluice/api"
	"sluice/sluice"
)

func newPacker(t *testing.T, limit int) *sluice.Packer {
	t.Helper()
	p, e := sluice.NewPacker(limit)
	if p == nil || e != api.OK {
		t.Fatalf("P6: NewPacker(%d): %d", limit, e)
	}
	if p.Size() != 0 {
		t.Errorf("P6: a new packer's Size is %d", p.Size())
	}
	return p
}

func wantPacked(t *testing.T, p *sluice.Packer, l list, want string, size int) {
	t.Helper()
	b, e := p.Pack(l)
	if e != api.OK || !bytes.Equal(b, unhex(t, want)) || p.Size() != size {
		t.Errorf("P7: Pack(%q) = %x, %d, Size %d, want %s, Size %d", l, b, e, p.Size(), want, size)
	}
}

func resize(t *testing.T, p *sluice.Packer, limits ...int) {
	t.Helper()
	for _, n := range limits {
		if e := p.Resize(n); e != api.OK {
			t.Errorf("P6: Resize(%d) = %d", n, e)
		}
	}
}

// wrongLimits are beyond the bounds, some of them such that a byte or so of them would not be.
var wrongLimits = []int{-1, 257, -2, 258, -256, 512, 1 << 16, 1 << 32, 1<<32 + 1, math.MaxInt, math.MinInt}

func TestLimitBounds(t *testing.T) {
	for _, n := range wrongLimits {
		if p, e := sluice.NewPacker(n); p != nil || e != api.ErrArg {
			t.Errorf("P6: NewPacker(%d): %v, %d", n, p, e)
		}
		if u, e := sluice.NewUnpacker(n); u != nil || e != api.ErrArg {
			t.Errorf("P8: NewUnpacker(%d): %v, %d", n, u, e)
		}
	}
	for _, n := range []int{0, 1, 8, 128, 255, 256} {
		resize(t, newPacker(t, n), n, 256, 0, n)
		newUnpacker(t, n)
	}
}

// A limit that is refused changes neither the table nor the limits that wait.
func TestResizeRefused(t *testing.T) {
	p := newPacker(t, 128)
	refuse := func() {
		t.Helper()
		for _, n := range wrongLimits {
			if e := p.Resize(n); e != api.ErrArg {
				t.Errorf("P6: Resize(%d) = %d", n, e)
			}
		}
	}
	wantPacked(t, p, list{h("x", "")}, "40 01 78 00", 9)
	refuse()
	wantPacked(t, p, list{h("x", "")}, "89", 9)
	resize(t, p, 9)
	refuse()
	resize(t, p, 10)
	refuse()
	wantPacked(t, p, nil, "29 2a", 9)
	wantPacked(t, p, nil, "", 9)
}

func TestLimitsOfNextBlock(t *testing.T) {
	for _, c := range []struct {
		limits []int
		want   string
	}{
		{nil, ""},
		{[]int{128}, "3f 61"}, // the limit that it has already is told too
		{[]int{0}, "20"}, {[]int{1}, "21"}, {[]int{29}, "3d"}, {[]int{30}, "3e"}, {[]int{31}, "3f 00"}, {[]int{32}, "3f 01"},
		{[]int{157}, "3f 7e"}, {[]int{158}, "3f 7f"}, {[]int{159}, "3f 80 01"}, {[]int{160}, "3f 81 01"}, {[]int{256}, "3f e1 01"},
		{[]int{5, 5}, "25"}, {[]int{5, 4}, "24"}, {[]int{4, 5}, "24 25"},
		{[]int{9, 5, 7}, "25 27"}, {[]int{5, 9, 7}, "25 27"}, {[]int{5, 7, 9}, "25 29"}, {[]int{7, 5, 9}, "25 29"},
		{[]int{9, 7, 5}, "25"}, {[]int{7, 9, 5}, "25"}, {[]int{5, 9, 5}, "25"}, {[]int{5, 5, 9}, "25 29"}, {[]int{9, 5, 9}, "25 29"},
		{[]int{0, 256}, "20 3f e1 01"}, {[]int{256, 0}, "20"}, {[]int{0, 200}, "20 3f a9 01"},
		{[]int{256, 0, 255, 1, 254}, "20 3f df 01"}, {[]int{3, 4, 5, 6, 2, 7, 8, 9}, "22 29"},
	} {
		p := newPacker(t, 128)
		resize(t, p, c.limits...)
		wantPacked(t, p, nil, c.want, 0)
		wantPacked(t, p, nil, "", 0)
		resize(t, p, 20)
		// What was told ahead of the last block counts no more.
		wantPacked(t, p, nil, "34", 0)
	}
}

// Until the next block is made the table stays as it is; then the least limit lets pairs go, also if the last one is greater.
func TestLimitsAndTable(t *testing.T) {
	three := list{h("x", "a"), h("x", "b"), h("x", "c")}
	for _, c := range []struct {
		limits []int
		size   int
	}{
		{[]int{256}, 30}, {[]int{128}, 30}, {[]int{30}, 30}, {[]int{29}, 20}, {[]int{20}, 20}, {[]int{19}, 10}, {[]int{10}, 10}, {[]int{9}, 0}, {[]int{0}, 0},
		{[]int{29, 256}, 20}, {[]int{256, 29}, 20}, {[]int{30, 256}, 30}, {[]int{10, 20, 128}, 10}, {[]int{0, 128}, 0}, {[]int{128, 9, 10}, 0},
	} {
		p := newPacker(t, 128)
		wantPacked(t, p, three, "40 01 78 01 61 49 01 62 49 01 63", 30)
		for _, n := range c.limits {
			resize(t, p, n)
			if p.Size() != 30 {
				t.Errorf("P6: Resize(%d) ahead of a block: Size %d", n, p.Size())
			}
		}
		if _, e := p.Pack(nil); e != api.OK || p.Size() != c.size {
			t.Errorf("P6: limits %v: Size %d, want %d", c.limits, p.Size(), c.size)
		}
		// The newest pairs are those that stayed.
		for i, left := 0, c.size/10; i < left; i++ {
			wantPacked(t, p, list{three[2-i]}, []string{"89", "8a", "8b"}[i], c.size)
		}
	}
}

// The limits hold for the pairs of the block that they begin.
func TestLimitsThenPairs(t *testing.T) {
	p := newPacker(t, 0)
	wantPacked(t, p, list{h("x", "")}, "00 01 78 00", 0)
	resize(t, p, 8)
	wantPacked(t, p, list{h("x", "")}, "28 00 01 78 00", 0)
	resize(t, p, 9)
	wantPacked(t, p, list{h("x", ""), h("x", "")}, "29 40 01 78 00 89", 9)
	resize(t, p, 0, 256)
	wantPacked(t, p, list{h("x", "")}, "20 3f e1 01 40 01 78 00", 9)
	resize(t, p, 8)
	wantPacked(t, p, list{h("x", "")}, "28 00 01 78 00", 0)
}

func TestPackExamples(t *testing.T) {
	p := newPacker(t, 128)
	wantPacked(t, p, list{h("path", "/")}, "81", 0)
	wantPacked(t, p, list{h("host", "eat")}, "47 82 02 1f", 15)
	wantPacked(t, p, list{h("host", "eat")}, "89", 15)
	wantPacked(t, p, list{h("x", "")}, "40 01 78 00", 24)
	wantPacked(t, p, list{h("host", "eat")}, "8a", 24)
	p = newPacker(t, 9)
	wantPacked(t, p, list{h("host", "x")}, "07 01 78", 0)
	resize(t, p, 30)
	wantPacked(t, p, list{}, "3e", 0)
	resize(t, p, 0, 200)
	wantPacked(t, p, list{}, "20 3f a9 01", 0)
}

func TestPackFixed(t *testing.T) {
	p := newPacker(t, 128)
	fixed := newModel(0).numbered()
	wantPacked(t, p, fixed, "81 82 83 84 85 86 87 88", 0)
	for i, q := range fixed {
		wantPacked(t, p, list{q, q}, strings.Repeat([]string{"81", "82", "83", "84", "85", "86", "87", "88"}[i], 2), 0)
	}
}

// noLists has lists that may not be, and lists that just may.
func noLists() (wrong, right []list) {
	text := strings.Repeat("n", 40)
	pair := h(text, text)
	long := append(slices.Repeat(list{pair}, 7), h(text, text+"n"))
	return []list{
		{h("", "")}, {h("", "a")}, {h(text+"n", "")}, {h("n", text+"n")}, {h(text+"n", text+"n")},
		slices.Repeat(list{h("a", "")}, 9), slices.Repeat(list{h("path", "/")}, 9), make(list, 9), make(list, 100000), make(list, 1),
		long, {pair, h("", ""), pair}, {h(strings.Repeat("n", 1<<16), "")}, {h("n", strings.Repeat("n", 1<<16+1))}, {h("n", strings.Repeat("n", 296))},
	}, []list{
		nil, {}, {h("n", "")}, {pair}, {h("\x00", "\xff\xfe")}, slices.Repeat(list{pair}, 8), {h("a", ""), h("b", ""), h("c", ""), h("d", ""), h("e", ""), h("f", ""), h("g", ""), h("a", "")},
	}
}

// What is no list changes nothing: neither the table, nor the limits that wait.
func TestPackNoList(t *testing.T) {
	wrong, right := noLists()
	p := newPacker(t, 128)
	refuse := func() {
		t.Helper()
		size := p.Size()
		for _, l := range wrong {
			if b, e := p.Pack(l); b != nil || e != api.ErrList || p.Size() != size {
				t.Errorf("P7: %d pairs, the first %.50q: %x, %d, Size %d", len(l), l[0], b, e, p.Size())
			}
		}
	}
	refuse()
	wantPacked(t, p, list{h("x", "")}, "40 01 78 00", 9)
	refuse()
	resize(t, p, 9, 20)
	refuse()
	wantPacked(t, p, list{h("x", "")}, "29 34 89", 9)
	for _, l := range right {
		if _, e := p.Pack(l); e != api.OK {
			t.Errorf("P7: Pack(%q): %d", l, e)
		}
	}
}

// A pair that is refused behind others that are right must not leave these in the table.
func TestPackNoListAtTheEnd(t *testing.T) {
	p := newPacker(t, 128)
	if b, e := p.Pack(list{h("x", "y"), h("", "")}); b != nil || e != api.ErrList || p.Size() != 0 {
		t.Errorf("P7: %x, %d, Size %d", b, e, p.Size())
	}
	wantPacked(t, p, list{h("x", "y")}, "40 01 78 01 79", 10)
}

func TestPackForms(t *testing.T) {
	p := newPacker(t, 40)
	full := strings.Repeat("q", 31)
	for _, c := range []struct {
		l    list
		want string
		size int
	}{
		// A fixed name, by the least number that has it; then the pair's own number.
		{list{h("verb", "q")}, "43 01 71", 13},
		{list{h("verb", "q"), h("verb", "get")}, "89 83", 13},
		// A name as a text, then by its number in the table.
		{list{h("q", "q")}, "40 01 71 01 71", 23},
		{list{h("q", "z"), h("q", "q")}, "49 01 7a 8a", 33},
		// The oldest pairs go: first verb q, then q q, then q z.
		{list{h("path", ""), h("verb", "q")}, "41 00 43 01 71", 35},
		{list{h("path", ""), h("verb", "q"), h("q", "q")}, "8a 89 4b 01 71", 35},
		// 41 bytes are more than the limit: it is not added.
		{list{h("q", full+"q")}, "09 20" + strings.Repeat("71", 32), 35},
		{list{h("Q", full+"q")}, "00 01 51 20" + strings.Repeat("71", 32), 35},
		{list{h("host", full[2:])}, "07 1d" + strings.Repeat("71", 29), 35},
		// 40 bytes just fit: all others go.
		{list{h("q", full)}, "49 1f" + strings.Repeat("71", 31), 40},
		{list{h("Q", full)}, "40 01 51 1f" + strings.Repeat("71", 31), 40},
		{list{h("Q", "")}, "49 00", 9},
		{list{h("q", "")}, "40 01 71 00", 18},
	} {
		wantPacked(t, p, c.l, c.want, c.size)
	}
}

// As many pairs as there is room for: the one added last has the number 9, and when one goes it is the one with the highest.
func TestPackNumbersGrow(t *testing.T) {
	p := newPacker(t, 256)
	var l list
	for i := range 28 {
		l = append(l, h(string(rune('A'+i)), ""))
		wantPacked(t, p, l[i:], "40 01"+hexOf(byte('A'+i))+"00", 9*(i+1))
	}
	for i := range 28 {
		wantPacked(t, p, l[i:i+1], hexOf(byte(0x80+36-i)), 252)
	}
	// One more, and the oldest goes.
	wantPacked(t, p, list{h("host", "")}, "87", 252)
	wantPacked(t, p, list{h("~", "")}, "40 01 7e 00", 252)
	wantPacked(t, p, list{h("A", "")}, "40 01 41 00", 252)
	wantPacked(t, p, list{h("C", "")}, "a4", 252)
	wantPacked(t, p, list{h("C", "D")}, "64 01 44", 253)
}

func TestPackTexts(t *testing.T) {
	for _, c := range []struct{ value, want string }{
		{"", "00"},
		{"e", "01 65"},     // a byte either way
		{"x", "01 78"},     // two, if it were packed
		{"ee", "81 00"},    // one instead of two
		{"rr", "81 77"},    // all but the marks are 1s
		{"et", "81 01"},    // the places count from 0
		{"be", "02 62 65"}, // 10 bits: two bytes either way
		{"bb", "02 62 62"}, // 12 bits: two bytes either way
		{"..", "02 2e 2e"},
		{"eee", "82 00 0f"},    // filled with four 1s
		{"b-e", "82 82 d0"},    // 100000 101101 0000 is 16 bits: no fill
		{"...", "03 2e 2e 2e"}, // 18 bits
		{"xee", "03 78 65 65"}, // 18 bits
		{"xeee", "83 de 00 03"},
		{"eeex", "83 00 0d e3"},
		{"eeeX", "83 00 0d 63"},
		{"\xff\xff", "02 ff ff"},
		{"eee\xff", "83 00 0f ff"},
		{"etaoinsr", "84 01 23 45 67"},
		{"bcdfghklmpuwy-/.", "8c 82 18 a3 92 59 a7 a2 9a ab b2 db af"},
		{strings.Repeat("e", 40), "94" + strings.Repeat("00", 20)},
		{strings.Repeat("b", 40), "9e" + strings.Repeat("82 08 20", 10)},
		{strings.Repeat("x", 40), "28" + strings.Repeat("78", 40)},
		{strings.Repeat(".", 4), "83 be fb ef"},
	} {
		p := newPacker(t, 128)
		wantPacked(t, p, list{h("kind", c.value)}, "45"+c.want, 12+len(c.value))
		if c.value == "" {
			continue
		}
		p = newPacker(t, 128)
		wantPacked(t, p, list{h(c.value, "")}, "40"+c.want+"00", 8+len(c.value))
		p = newPacker(t, 0)
		wantPacked(t, p, list{h(c.value, c.value)}, "00"+c.want+c.want, 0)
	}
}

// Each byte of a text, alone and with others, is as the document says.
func TestPackEveryByte(t *testing.T) {
	for c := range 256 {
		for _, text := range []string{string([]byte{byte(c)}), "ea" + string([]byte{byte(c)}), "tttttt" + string([]byte{byte(c), byte(c), 'e'})} {
			p := newPacker(t, 0)
			b, e := p.Pack(list{h(text, text)})
			want := newModel(0).pack(nil, list{h(text, text)})
			if e != api.OK || !bytes.Equal(b, want) {
				t.Errorf("P7: %q: %x, want %x", text, b, want)
			}
		}
	}
}
