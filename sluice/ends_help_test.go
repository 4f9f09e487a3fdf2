package sluice_test

import (
	"bytes"
	"testing"

	"sluice/api"
)

const greets = "sluice\n"

func oneFrame(kind, flags, stream int, body ...byte) []byte {
	return bytesOf(api.Frame{Kind: kind, Flags: flags, Stream: stream, Body: body})
}

func data(s int, body string) []byte { return oneFrame(api.Data, 0, s, []byte(body)...) }

func lastData(s int, body string) []byte { return oneFrame(api.Data, api.End, s, []byte(body)...) }

// padded is Data whose body has p + 1 bytes more than its content.
func padded(s, p int, content string) []byte {
	body := append([]byte{byte(p)}, content...)
	return oneFrame(api.Data, api.Padded, s, append(body, make([]byte, p)...)...)
}

func headers(s, flags int, block ...byte) []byte { return oneFrame(api.Headers, flags, s, block...) }

func more(s, flags int, block ...byte) []byte { return oneFrame(api.Continue, flags, s, block...) }

func resets(s int) []byte { return oneFrame(api.Reset, 0, s, 0) }

func settings(n int) []byte { return oneFrame(api.Settings, 0, 0, four(n)...) }

func heard() []byte { return oneFrame(api.Settings, api.Ack, 0) }

func ping(n int) []byte { return oneFrame(api.Ping, 0, 0, four(n)...) }

func pong(n int) []byte { return oneFrame(api.Ping, api.Ack, 0, four(n)...) }

func goaway(n byte) []byte { return oneFrame(api.Goaway, 0, 0, n) }

func credit(s, n int) []byte { return oneFrame(api.Credit, 0, s, four(n)...) }

func join(l ...[]byte) []byte { return bytes.Join(l, nil) }

func xs(n int) string { return string(bytes.Repeat([]byte("x"), n)) }

// plain is a configuration that grants nothing beyond what there is at first, and gives back from one byte on.
func plain() api.Config { return api.Config{Initial: 32, Conn: 32, Batch: 1, Cap: 32} }

// talking is an end that has made its Settings and heard those of the other end, whose initial window is other, and that both were heard.
func talking(t *testing.T, first bool, c api.Config, other int) *watched {
	t.Helper()
	w := watch(t, first, c)
	if !first {
		w.feeds(api.OK, []byte(greets))
	}
	w.feeds(api.OK, settings(other))
	w.Take(all)
	w.feeds(api.OK, heard())
	return w
}

func (w *watched) feeds(want api.Errno, l ...[]byte) {
	w.t.Helper()
	if f := w.Feed(join(l...)); f != want || w.e.Fault() != want {
		w.t.Errorf("P15: Feed(%x) = %d, Fault() = %d, want %d", join(l...), f, w.e.Fault(), want)
	}
}

func (w *watched) takes(l ...[]byte) {
	w.t.Helper()
	if b := w.Take(all); !bytes.Equal(b, join(l...)) {
		w.t.Errorf("P14: Take = %x, want %x", b, join(l...))
	}
}

func (w *watched) opens(l list, last bool, want int) int {
	w.t.Helper()
	if s, e := w.Open(l, last); s != want || e != api.OK {
		w.t.Errorf("P10: Open(%q, %v) = %d, %d, want %d, OK", l, last, s, e, want)
	}
	return want
}

func (w *watched) writes(s int, b string, n int) {
	w.t.Helper()
	if k, e := w.Write(s, []byte(b)); k != n || e != api.OK {
		w.t.Errorf("P11: Write(%d, %q) = %d, %d, want %d, OK", s, b, k, e, n)
	}
}

func (w *watched) closes(s int) {
	w.t.Helper()
	if e := w.Close(s); e != api.OK {
		w.t.Errorf("P11: Close(%d) = %d, want OK", s, e)
	}
}

func (w *watched) reads(s, n int, want string, last bool) {
	w.t.Helper()
	if b, l, e := w.Read(s, n); string(b) != want || l != last || e != api.OK {
		w.t.Errorf("P12: Read(%d, %d) = %q, %v, %d, want %q, %v, OK", s, n, b, l, e, want, last)
	}
}

func (w *watched) drops(s int) {
	w.t.Helper()
	if e := w.Reset(s); e != api.OK {
		w.t.Errorf("P13: Reset(%d) = %d, want OK", s, e)
	}
}

func (w *watched) windows(s, send, receive int) {
	w.t.Helper()
	if a, b, e := w.e.Windows(s); a != send || b != receive || e != api.OK {
		w.t.Errorf("P18: Windows(%d) = %d, %d, %d, want %d, %d, OK", s, a, b, e, send, receive)
	}
}
