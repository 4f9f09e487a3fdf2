package blocks

import (
	"strings"

	"sluice/api"
)

// The bytes that have a short code: a first mark and their place here.
const (
	often  = "etaoinsr"
	common = "bcdfghklmpuwy-/."
)

// bitWriter lays bits down, the high bit of each byte first.
type bitWriter struct {
	whole []byte
	loose uint32 // the last n bits of it are laid down, but no whole byte yet
	n     int
}

func (w *bitWriter) put(bits uint32, n int) {
	w.loose = w.loose<<n | bits
	w.n += n
	for w.n >= 8 {
		w.n -= 8
		w.whole = append(w.whole, byte(w.loose>>w.n))
	}
}

// fill lays 1s down up to a whole byte.
func (w *bitWriter) fill() {
	if w.n > 0 {
		free := 8 - w.n
		w.put(1<<free-1, free)
	}
}

func packBits(text string) []byte {
	var w bitWriter
	for i := range len(text) {
		w.put(codeOf(text[i]))
	}
	w.fill()
	return w.whole
}

// codeOf tells the bits that stand for a byte, and how many they are.
func codeOf(c byte) (uint32, int) {
	if at := strings.IndexByte(often, c); at >= 0 {
		return uint32(at), 4
	}
	if at := strings.IndexByte(common, c); at >= 0 {
		return 0b10<<4 | uint32(at), 6
	}
	return 0b11<<8 | uint32(c), 10
}

// bitReader reads bits in the order in which a bitWriter lays them down.
type bitReader struct {
	all []byte
	at  int // how many bits were read
}

func (r *bitReader) left() int { return 8*len(r.all) - r.at }

func (r *bitReader) take(n int) int {
	if n > r.left() {
		panic(api.FaultHeader)
	}
	v := 0
	for range n {
		bit := r.all[r.at/8] >> (7 - r.at%8) & 1
		v = v<<1 | int(bit)
		r.at++
	}
	return v
}

// onlyFill tells whether what is left is fill. No code is so short and all 1s, so fill is never taken for one.
func (r *bitReader) onlyFill() bool {
	if r.left() >= 8 {
		return false
	}
	ahead := *r
	n := ahead.left()
	return ahead.take(n) == 1<<n-1
}

func unpackBits(b []byte) string {
	r := bitReader{all: b}
	var text []byte
	for !r.onlyFill() {
		text = append(text, r.takeByte())
	}
	return string(text)
}

func (r *bitReader) takeByte() byte {
	if r.take(1) == 0 {
		return often[r.take(3)]
	}
	if r.take(1) == 0 {
		return common[r.take(4)]
	}
	c := byte(r.take(8))
	if _, n := codeOf(c); n < 10 {
		panic(api.FaultHeader)
	}
	return c
}
