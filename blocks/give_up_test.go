package blocks

import (
	"testing"

	"sluice/api"
)

// gaveUp calls f and answers the value of its panic, nil if there was none.
func gaveUp(f func()) (value any) {
	defer func() { value = recover() }()
	f()
	return nil
}

func wantGivenUp(t *testing.T, what any, f func()) {
	t.Helper()
	if v := gaveUp(f); v != api.FaultHeader {
		t.Errorf("%v: gave up with %v, want FaultHeader", what, v)
	}
}

func TestUnpackGivesUpWithFault(t *testing.T) {
	for _, b := range []string{"\x10", "\x80", "\x89", "\x7f\x00", "\x0f\x00", "\x47", "\x47\x02a", "\x47\x81\xff", "\x47\x82\xd8\x7f", "\x81\x20", "\x3f\x62", "\xff\x80\x00", "\x40\x00\x00"} {
		u := NewUnpacker(128)
		wantGivenUp(t, []byte(b), func() { u.Unpack([]byte(b)) })
	}
	u := NewUnpacker(128)
	if v := gaveUp(func() { u.Unpack([]byte("\x47\x81\x7f\x89")) }); v != nil {
		t.Errorf("a block: gave up with %v", v)
	}
}
