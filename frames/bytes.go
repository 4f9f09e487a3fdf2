// Package frames: the bytes of frames, and the rules that they keep to.
package frames

import "sluice/api"

const headSize = 6

// Fits tells whether kind, flags, stream and length are such that a head can carry them. The rules of its kind a frame may break nevertheless.
func Fits(f api.Frame) bool {
	return inByte(f.Kind) && inByte(f.Flags) && f.Stream >= 0 && f.Stream <= api.MaxStream && len(f.Body) <= api.MaxBody
}

func inByte(n int) bool { return n >= 0 && n <= 255 }

// Bytes makes the bytes of a frame that fits.
func Bytes(f api.Frame) []byte {
	n := len(f.Body)
	b := make([]byte, 0, headSize+n)
	b = append(b, byte(n>>8), byte(n), byte(f.Kind), byte(f.Flags), byte(f.Stream>>8), byte(f.Stream))
	return append(b, f.Body...)
}

// Number makes the four bytes of a number.
func Number(n uint32) []byte {
	return []byte{byte(n >> 24), byte(n >> 16), byte(n >> 8), byte(n)}
}

func number(b []byte) uint32 {
	return uint32(b[0])<<24 | uint32(b[1])<<16 | uint32(b[2])<<8 | uint32(b[3])
}
