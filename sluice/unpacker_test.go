package sluice_test

import (
	"encoding/hex"
	"fmt"
	"slices"
	"strconv"
	"strings"
	"testing"

	"sluice/api"
	"sluice/sluice"
)

func hexOf(b ...byte) string { return hex.EncodeToString(b) }

func newUnpacker(t *testing.T, limit int) *sluice.Unpacker {
	t.Helper()
	u, e := sluice.NewUnpacker(limit)
	if u == nil || e != api.OK {
		t.Fatalf("P8: NewUnpacker(%d): %d", limit, e)
	}
	if u.Size() != 0 {
		t.Errorf("P8: a new unpacker's Size is %d", u.Size())
	}
	return u
}

func wantUnpacked(t *testing.T, u *sluice.Unpacker, block string, want list, size int) {
	t.Helper()
	l, e := u.Unpack(unhex(t, block))
	if e != api.OK || !slices.Equal(l, want) || u.Size() != size {
		t.Errorf("P8: Unpack(%s) = %q, %d, Size %d, want %q, Size %d", block, l, e, u.Size(), want, size)
	}
}

// wantBroken asks that an unpacker takes this for no block, and nothing from then on.
func wantBroken(t *testing.T, u *sluice.Unpacker, block string) {
	t.Helper()
	for _, b := range [][]byte{unhex(t, block), nil, {}, {0x81}, unhex(t, "40 01 78 00"), {0x89}, unhex(t, block), make([]byte, 3000)} {
		if l, e := u.Unpack(b); l != nil || e != api.FaultHeader || u.Size() != 0 {
			t.Errorf("P8: Unpack(%s), then %.20x: %q, %d, Size %d, want FaultHeader", block, b, l, e, u.Size())
			return
		}
	}
}

// wantNoBlock asks it of new unpackers, and of one that has something in its table: the pairs x with an empty value (9), and host eat (10).
func wantNoBlock(t *testing.T, block string) {
	t.Helper()
	for _, limit := range []int{128, 255, 256} {
		wantBroken(t, newUnpacker(t, limit), block)
	}
	u := newUnpacker(t, 128)
	wantUnpacked(t, u, "47 82 02 1f 40 01 78 00", list{h("host", "eat"), h("x", "")}, 24)
	wantBroken(t, u, block)
}

func TestUnpackExamples(t *testing.T) {
	wantNoBlock(t, "c0")
	wantNoBlock(t, "7f 00")
	wantNoBlock(t, "47 81 ff")
	wantNoBlock(t, "47 82 d8 7f")
	wantUnpacked(t, newUnpacker(t, 128), "47 81 7f", list{h("host", "r")}, 13)
	u := newUnpacker(t, 128)
	wantUnpacked(t, u, "81", list{h("path", "/")}, 0)
	wantUnpacked(t, u, "47 82 02 1f", list{h("host", "eat")}, 15)
	wantUnpacked(t, u, "89", list{h("host", "eat")}, 15)
	wantUnpacked(t, u, "40 01 78 00", list{h("x", "")}, 24)
	wantUnpacked(t, u, "8a", list{h("host", "eat")}, 24)
}

func TestUnpackForms(t *testing.T) {
	u := newUnpacker(t, 40)
	wantUnpacked(t, u, "", nil, 0)
	wantUnpacked(t, u, "81 82 83 84 85 86 87 88", newModel(0).numbered(), 0)
	wantUnpacked(t, u, "43 01 71", list{h("verb", "q")}, 13)
	wantUnpacked(t, u, "44 01 71", list{h("verb", "q")}, 26) // a pair may stand there twice
	wantUnpacked(t, u, "89 8a", list{h("verb", "q"), h("verb", "q")}, 26)
	wantUnpacked(t, u, "03 00 00 01 71 00", list{h("verb", ""), h("q", "")}, 26)
	wantUnpacked(t, u, "40 01 71 01 71 89 8b", list{h("q", "q"), h("q", "q"), h("verb", "q")}, 36)
	wantUnpacked(t, u, "4b 01 7a", list{h("verb", "z")}, 36) // the name is that of a pair that goes
	wantUnpacked(t, u, "89 8a 8b", list{h("verb", "z"), h("q", "q"), h("verb", "q")}, 36)
	wantUnpacked(t, u, "41 1c"+strings.Repeat("71", 28), list{h("path", strings.Repeat("q", 28))}, 40)
	wantUnpacked(t, u, "41 1d"+strings.Repeat("71", 29)+"01 00", list{h("path", strings.Repeat("q", 29)), h("path", "")}, 0) // too much alone: all are gone
	wantUnpacked(t, u, "08 00", list{h("length", "")}, 0)
	wantBroken(t, u, "89")
}

// packedText makes the hexadecimal text of a packed text of these bits, which are whole bytes.
func packedText(t *testing.T, bits string) string {
	t.Helper()
	bits = strings.ReplaceAll(bits, " ", "")
	if len(bits)%8 != 0 {
		t.Fatalf("%d bits", len(bits))
	}
	b := []byte{0x80 + byte(len(bits)/8)}
	for ; bits != ""; bits = bits[8:] {
		c, err := strconv.ParseUint(bits[:8], 2, 8)
		if err != nil {
			t.Fatal(err)
		}
		b = append(b, byte(c))
	}
	return hexOf(b...)
}

func TestUnpackTexts(t *testing.T) {
	check := func(text, want string) {
		t.Helper()
		wantUnpacked(t, newUnpacker(t, 128), "47"+text, list{h("host", want)}, 12+len(want))
		wantUnpacked(t, newUnpacker(t, 0), "07"+text+"07"+text, list{h("host", want), h("host", want)}, 0)
		if want != "" {
			wantUnpacked(t, newUnpacker(t, 128), "40"+text+text+"89", list{h(want, want), h(want, want)}, 8+2*len(want))
		}
	}
	ff := strings.Repeat("\xff", 40)
	for _, c := range []struct{ bytes, want string }{
		{"00", ""}, {"01 65", "e"}, {"02 65 65", "ee"}, {"02 78 78", "xx"}, {"02 00 ff", "\x00\xff"}, {"28" + strings.Repeat("ff", 40), ff},
	} {
		check(c.bytes, c.want)
	}
	// Texts may be packed where that is no gain, too.
	for _, c := range []struct{ bits, want string }{
		{"", ""},
		{"0000 1111", "e"}, {"0000 0000", "ee"}, {"0111 0111", "rr"}, {"0111 1111", "r"},
		{"100000 11", "b"}, {"101111 11", "."}, {"101111 101111 1111", ".."},
		{"11 01111000 111111", "x"}, {"11 01111000 11 01111000 1111", "xx"}, {"11 01111000 0000 11", "xe"},
		{"0000 0000 101111 11 11111111 11 00000000 111111", "ee.\xff\x00"},
		{"11 11111111 111111", "\xff"}, {"11 11111111 11 11111111 1111", "\xff\xff"}, {strings.Repeat("1", 400), ff},
		{"100000 1111111111 0000 0000", "b\xffee"}, {strings.Repeat("0000", 40), strings.Repeat("e", 40)},
		{"0000 101101 101101", "e--"},
	} {
		check(packedText(t, c.bits), c.want)
	}
}

// All bits of one and two bytes, and many of three, as a packed text: they are taken as the model takes them.
func TestUnpackAllBits(t *testing.T) {
	check := func(bits ...byte) {
		text, right := modelUnbits(bits)
		l, e := newUnpacker(t, 0).Unpack(slices.Concat([]byte{0x07, 0x80 + byte(len(bits))}, bits))
		if right && (e != api.OK || !slices.Equal(l, list{h("host", text)})) || !right && (l != nil || e != api.FaultHeader) {
			t.Errorf("P8: packed bits %08b: %q, %d, want %q, %v", bits, l, e, text, right)
		}
	}
	for a := range 256 {
		check(byte(a))
		for b := range 256 {
			check(byte(a), byte(b))
			check(0xde, byte(a), byte(b))
		}
	}
}

func TestNoPackedBits(t *testing.T) {
	wrong := []string{
		// Eight 1s of fill. (Ten would be the byte 255.)
		"11111111", "0000 0000 11111111", "0111 0111 11111111", "0000 101111 101111 11111111",
		"11 01111000 101111 11111111", "11 11111111 101111 11111111", "101111 11 11111111 11111111",
		// A 0 in the fill.
		"0000 1110", "0000 1101", "0000 1100", "0000 1011", "0000 1010", "0000 1001", "0000 1000",
		"101111 10", "101111 01", "101111 00", "0000 0000 0000 1110", "11 01111000 0000 10", "11 01111000 0000 01",
		"11 11111111 111110", "11 11111111 111101", "11 11111111 111011", "11 11111111 110111", "11 11111111 110000",
		// A code that ends too early.
		"11 000000", "11 011110", "11 111110", "0000 0000 11 000000",
	}
	for _, bits := range wrong {
		text := packedText(t, bits)
		wantNoBlock(t, "47"+text)
		wantNoBlock(t, "07"+text)
		wantNoBlock(t, "40"+text+"00")
		wantNoBlock(t, "40 01 78"+text)
	}
	// A byte that has a shorter form.
	for _, c := range []byte("etaoinsrbcdfghklmpuwy-/.") {
		wantNoBlock(t, "47"+packedText(t, fmt.Sprintf("11 %08b 111111", c)))
		wantNoBlock(t, "40"+packedText(t, fmt.Sprintf("0000 11 %08b 11", c))+"00")
	}
}

func TestNoCounts(t *testing.T) {
	for _, more := range []string{
		"", "80", "ff", "80 80", "ff ff", // it ends too early
		"80 00", "81 00", "ff 00", "80 80 00", "ff ff 00", // its last byte is 0
		"80 80 80", "80 80 80 01", "ff ff ff ff", "80 80 80 80 80 80 80 80 80 80 01", // it runs on
	} {
		for _, first := range []string{"ff", "7f", "3f", "0f", "20 3f", "40 7f", "40 ff", "47 7f", "47 ff", "40 01 78 7f", "81 ff", "81 0f"} {
			wantNoBlock(t, first+more)
			wantNoBlock(t, first+more+strings.Repeat("01", 40))
		}
	}
}

// Each of these counts is 9 or 15 or so, but not in the form that it must have.
func TestCountsHaveOneForm(t *testing.T) {
	block := ""
	for i := range 8 {
		block += "40 01" + hexOf(byte('A'+i)) + "00"
	}
	u := newUnpacker(t, 256)
	u.Unpack(unhex(t, block))
	wantUnpacked(t, u, "8e 8f 90", list{h("C", ""), h("B", ""), h("A", "")}, 72)
	wantUnpacked(t, u, "0e 00 0f 00 00 0f 01 00", list{h("C", ""), h("B", ""), h("A", "")}, 72)
	wantUnpacked(t, u, "4f 00", list{h("B", "")}, 81)
	for _, b := range []string{"0f 80 00 00", "0f 81 00 00", "0f 02 00", "0f 03 00", "0f 7f 00", "0f 80 01 00", "92", "52 00"} {
		u := newUnpacker(t, 256)
		u.Unpack(unhex(t, block))
		wantBroken(t, u, b)
	}
}

func TestUnpackLimits(t *testing.T) {
	three := "40 01 78 01 61 49 01 62 49 01 63"
	for _, c := range []struct {
		limits string
		size   int
	}{
		{"", 30}, {"3f 61", 30}, {"3e", 30}, {"3d", 20}, {"34", 20}, {"33", 10}, {"2a", 10}, {"29", 0}, {"20", 0},
		{"3d 3f 61", 20}, {"3f 61 3d", 20}, {"20 3f 61", 0}, {"3f 61 20", 0}, {"20 20", 0}, {"3f 61 3f 61", 30}, {"3f 00 3f 00", 30}, {"33 2a", 10},
	} {
		u := newUnpacker(t, 128)
		wantUnpacked(t, u, three, list{h("x", "a"), h("x", "b"), h("x", "c")}, 30)
		wantUnpacked(t, u, c.limits, nil, c.size)
		for i, left := 0, c.size/10; i < left; i++ {
			wantUnpacked(t, u, hexOf(byte(0x89+i)), list{h("x", string(rune('c'-i)))}, c.size)
		}
		wantBroken(t, u, hexOf(byte(0x89+c.size/10)))
	}
	// A limit holds for the pairs behind it, in this block and in those that come.
	u := newUnpacker(t, 128)
	wantUnpacked(t, u, "29 40 01 78 00", list{h("x", "")}, 9)
	wantUnpacked(t, u, "40 01 79 00", list{h("y", "")}, 9)
	wantUnpacked(t, u, "40 01 79 01 79", list{h("y", "y")}, 0)
	wantUnpacked(t, u, "28 2a 40 01 79 01 79", list{h("y", "y")}, 10)
}

func TestNoLimits(t *testing.T) {
	for _, block := range []string{
		"20 20 20", "21 22 23", "20 20 20 81", "20 21 20 3f 61", // three limits
		"81 20", "20 81 20", "47 00 20", "07 00 20", "20 20 81 20", "81 3f 61", // a limit behind a pair
		"3f e2 01", "3f ff ff 7f", "3f ff 7f", "20 3f e2 01", "3f e2 01 20", // above each limit that there may be
		"10", "1f", "1f 00", "11 00 00", "20 10", "81 10", "18 01 61 01 61", // what begins with 0001
	} {
		wantNoBlock(t, block)
	}
}

// A limit is held against that of NewUnpacker, not against the one that was told last.
func TestLimitOfNewUnpacker(t *testing.T) {
	for _, limit := range []int{0, 1, 29, 30, 31, 32, 128, 157, 158, 159, 160, 255, 256} {
		at, above := hexOf(modelCount("001", limit)...), hexOf(modelCount("001", limit+1)...)
		u := newUnpacker(t, limit)
		for _, block := range []string{at, "20", at, "20" + at, at + "20", at + at, "20"} {
			wantUnpacked(t, u, block, nil, 0)
		}
		wantBroken(t, u, above)
		for _, block := range []string{above, "20" + above, above + "20", at + above, above + at, "20" + above + "81"} {
			wantBroken(t, newUnpacker(t, limit), block)
		}
	}
}

func TestNoNumbers(t *testing.T) {
	for _, block := range []string{
		"80", "81 80", "20 80", // a number 0 in the first form
		"8b", "ff 00", "fe", "ff ff ff 7f", // no pair's number, in each form
		"4b 00", "7e 00", "7f 00 00", "7f ff ff 7f 00",
		"0b 00", "0e 00", "0f 00 00", "0f ff ff 7f 00",
	} {
		wantNoBlock(t, block)
	}
	for _, block := range []string{"89", "49 00", "09 00", "41 00 8a", "20 41 00 89"} {
		wantBroken(t, newUnpacker(t, 128), block)
	}
}

func TestBlockEndsEarly(t *testing.T) {
	for _, block := range []string{
		"47", "07", "40", "00", "40 01", "40 01 78", "00 01 78", "47 01", "47 02 61", "47 81", "47 82 02", "47 28" + strings.Repeat("61", 39),
		"40 02 78", "40 82 de", "47 7e", "47 7f 00 61", "47 fe 00", "47 ff ff ff 7f 00", "47 7f ff ff 7f 61",
	} {
		wantNoBlock(t, block)
		wantNoBlock(t, "81"+block)
	}
}

func TestUnpackNoList(t *testing.T) {
	text := func(n int) string { return hexOf(modelText(strings.Repeat("n", n), false)...) }
	packed := func(n int) string { return hexOf(modelText(strings.Repeat("n", n), true)...) }
	for _, n := range []int{41, 42, 100, 126, 127, 128, 200, 256, 296} {
		for _, long := range []string{text(n), packed(n), hexOf(modelText(strings.Repeat("~", n), true)...)} {
			for _, block := range []string{"40" + long + "00", "00" + long + "00", "40 01 78" + long, "00 01 78" + long, "47" + long, "07" + long, "81 82 07" + long + "83"} {
				wantNoBlock(t, block)
			}
		}
	}
	for _, block := range []string{"40 00 00", "00 00 00", "40 80 00", "00 80 00", "40 00 01 61", "81 00 80 80"} {
		wantNoBlock(t, block)
	}
	for _, pair := range []string{"81", "47 00", "07 00", "40 01 78 00"} {
		wantNoBlock(t, strings.Repeat(pair, 9))
		wantNoBlock(t, strings.Repeat(pair, 9000))
		if l, e := newUnpacker(t, 128).Unpack(unhex(t, strings.Repeat(pair, 8))); len(l) != 8 || e != api.OK {
			t.Errorf("P8: eight pairs: %q, %d", l, e)
		}
	}
	name := strings.Repeat("n", 40)
	wantUnpacked(t, newUnpacker(t, 128), "40"+text(40)+packed(40), list{h(name, name)}, 88)
}

// What a block added ahead of its fault is gone too.
func TestBrokenHasNothing(t *testing.T) {
	u := newUnpacker(t, 128)
	wantUnpacked(t, u, "40 01 78 00", list{h("x", "")}, 9)
	wantBroken(t, u, "40 01 79 00 89 10")
}

// Lists that a packer packed come back, with limits in between, and the tables stay alike.
func TestBack(t *testing.T) {
	for _, limit := range []int{0, 8, 9, 20, 100, 128, 255, 256} {
		p, u := newPacker(t, limit), newUnpacker(t, limit)
		for i := range 500 {
			l := list{h("host", strings.Repeat("ea", i%20)), h("path", "/"), h(strings.Repeat("n", 1+i%7), fmt.Sprint("v", i%3)), h("host", strings.Repeat("X", i%41)), h(fmt.Sprint(i%11), "")}
			l = l[:i%6]
			if i%5 == 0 {
				resize(t, p, i*7%(limit+1), i*13%(limit+1))
			}
			b, e := p.Pack(l)
			back, f := u.Unpack(b)
			if e != api.OK || f != api.OK || !slices.Equal(back, l) || p.Size() != u.Size() || p.Size() > limit {
				t.Fatalf("P8: limit %d: %q is %x, %d; back comes %q, %d; Sizes %d, %d", limit, l, b, e, back, f, p.Size(), u.Size())
			}
		}
	}
}
