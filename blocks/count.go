package blocks

import "sluice/api"

// form is what the first bits of a byte say; the bits behind them begin a count.
type form struct {
	first byte // the first bits, with 0s behind them
	k     int  // how many bits the count begins with
}

var (
	byNumber = form{first: 0b1000_0000, k: 7} // a pair that has a number
	toAdd    = form{first: 0b0100_0000, k: 6} // a pair that is added
	toLimit  = form{first: 0b0010_0000, k: 5} // a limit
	notToAdd = form{first: 0b0000_0000, k: 4} // a pair that is not added
	plain    = form{first: 0b0000_0000, k: 7} // a text as it is
	packed   = form{first: 0b1000_0000, k: 7} // a text in packed bits
)

// maxMore is how many bytes a count has at most behind its first.
const maxMore = 3

func (f form) begins(c byte) bool { return c>>f.k == f.first>>f.k }

// most is what the count's bits are if they are all 1: the least number that does not stand in them.
func (f form) most() int { return 1<<f.k - 1 }

func appendCount(b []byte, f form, n int) []byte {
	if n < f.most() {
		return append(b, f.first|byte(n))
	}
	b = append(b, f.first|byte(f.most()))
	rest := n - f.most()
	for ; rest > 127; rest >>= 7 {
		b = append(b, 128|byte(rest&127))
	}
	return append(b, byte(rest))
}

// takeCount reads the count that begins in the byte c, which was taken already.
func (s *source) takeCount(c byte, f form) int {
	n := int(c) & f.most()
	if n < f.most() {
		return n
	}
	for i := range maxMore {
		more := s.take()
		n += int(more&127) << (7 * i)
		if more == 0 && i > 0 {
			// The same number has a shorter count.
			panic(api.FaultHeader)
		}
		if more < 128 {
			return n
		}
	}
	panic(api.FaultHeader)
}
