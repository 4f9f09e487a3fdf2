package frames

import (
	"testing"

	"sluice/api"
)

// gaveUp feeds bytes and answers the value of the panic, if there was one, and with which byte.
func gaveUp(b []byte) (value any, at int) {
	defer func() { value = recover() }()
	var r Reader
	for at = range b {
		r.Take(b[at])
	}
	return nil, at
}

func TestTakeGivesUpWithFault(t *testing.T) {
	for _, c := range []struct {
		bytes []byte
		fault api.Errno
		at    int
	}{
		{[]byte{0, 1, 2, 0, 0, 0, 0, 0}, api.FaultForm, 5},
		{[]byte{0, 5, 6, 0, 0, 1, 0, 0}, api.FaultSize, 5},
		{[]byte{0, 4, 6, 0, 0, 1, 0, 0, 0, 0, 0}, api.FaultForm, 9},
		{[]byte{0, 2, 0, 8, 0, 1, 1, 1, 0}, api.FaultForm, 7},
	} {
		if v, at := gaveUp(c.bytes); v != c.fault || at != c.at {
			t.Errorf("%x: %v with byte %d, want %d with byte %d", c.bytes, v, at, c.fault, c.at)
		}
	}
	if v, _ := gaveUp([]byte{0, 1, 2, 0, 0, 1, 0, 0}); v != nil {
		t.Errorf("a right frame: %v", v)
	}
}
