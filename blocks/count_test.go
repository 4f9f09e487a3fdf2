package blocks

import (
	"bytes"
	"testing"
)

func takeCount(b []byte, f form) (n, left int) {
	s := source{rest: b}
	n = s.takeCount(s.take(), f)
	return n, len(s.rest)
}

func TestCounts(t *testing.T) {
	for _, c := range []struct {
		f    form
		n    int
		want string
	}{
		{notToAdd, 0, "\x00"}, {notToAdd, 14, "\x0e"}, {notToAdd, 15, "\x0f\x00"}, {notToAdd, 16, "\x0f\x01"},
		{notToAdd, 15 + 127, "\x0f\x7f"}, {notToAdd, 15 + 128, "\x0f\x80\x01"}, {notToAdd, 15 + 129, "\x0f\x81\x01"},
		{toLimit, 0, "\x20"}, {toLimit, 30, "\x3e"}, {toLimit, 31, "\x3f\x00"}, {toLimit, 200, "\x3f\xa9\x01"}, {toLimit, 256, "\x3f\xe1\x01"},
		{toAdd, 0, "\x40"}, {toAdd, 62, "\x7e"}, {toAdd, 63, "\x7f\x00"}, {toAdd, 63 + 127, "\x7f\x7f"}, {toAdd, 63 + 128, "\x7f\x80\x01"},
		{byNumber, 1, "\x81"}, {byNumber, 126, "\xfe"}, {byNumber, 127, "\xff\x00"}, {byNumber, 128, "\xff\x01"},
		{plain, 40, "\x28"}, {plain, 126, "\x7e"}, {plain, 127, "\x7f\x00"}, {packed, 50, "\xb2"}, {packed, 127, "\xff\x00"},
		{plain, 127 + 1<<14 - 1, "\x7f\xff\x7f"}, {plain, 127 + 1<<14, "\x7f\x80\x80\x01"}, {plain, 127 + 1<<21 - 1, "\x7f\xff\xff\x7f"},
	} {
		if b := appendCount([]byte("ahead"), c.f, c.n); string(b) != "ahead"+c.want {
			t.Errorf("%d in %d bits: %x, want %x", c.n, c.f.k, b[5:], c.want)
		}
		if n, left := takeCount([]byte(c.want+"behind"), c.f); n != c.n || left != 6 {
			t.Errorf("%x: %d, %d bytes are left, want %d, 6", c.want, n, left, c.n)
		}
	}
}

// Every number has the one count that is written for it, in each form.
func TestCountsBack(t *testing.T) {
	for _, f := range []form{byNumber, toAdd, toLimit, notToAdd, plain, packed} {
		for n := 0; n < f.most()+1<<21; n += 1 + n/50 {
			b := appendCount(nil, f, n)
			if m, left := takeCount(b, f); m != n || left != 0 || !f.begins(b[0]) {
				t.Fatalf("%d in %d bits: %x, then %d", n, f.k, b, m)
			}
			for i := range b {
				wantGivenUp(t, b[:i], func() { takeCount(b[:i], f) })
			}
		}
	}
}

// A count that runs on, whose last byte is 0, or that ends too early.
func TestNoCounts(t *testing.T) {
	for _, f := range []form{byNumber, toAdd, toLimit, notToAdd, plain, packed} {
		ones := f.first | byte(f.most())
		for _, more := range []string{"", "\x80", "\xff", "\x80\x00", "\xff\x00", "\x80\x80", "\xff\xff", "\x81\x80\x00", "\xff\xff\x00", "\x80\x80\x80", "\xff\xff\xff", "\x80\x80\x80\x01", "\x80\x80\x80\x00", "\xff\xff\xff\x7f"} {
			b := append([]byte{ones}, more...)
			wantGivenUp(t, b, func() { takeCount(b, f) })
		}
	}
}

// Which first byte begins which form: each byte but those that begin with 0001 begins one, and one only.
func TestForms(t *testing.T) {
	for c := range 256 {
		var got []byte
		for _, f := range []form{byNumber, toAdd, toLimit, notToAdd} {
			if f.begins(byte(c)) {
				got = append(got, f.first)
			}
		}
		var want []byte
		switch {
		case c >= 128:
			want = []byte{128}
		case c >= 64:
			want = []byte{64}
		case c >= 32:
			want = []byte{32}
		case c < 16:
			want = []byte{0}
		}
		if !bytes.Equal(got, want) {
			t.Errorf("%08b begins %v, want %v", c, got, want)
		}
	}
}
