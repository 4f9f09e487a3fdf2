package plays

// pipe is the bytes that went out of an end and did not come to the other yet.
type pipe []byte

// lay lays bytes behind what is there, and answers how many.
func (p *pipe) lay(b []byte) int {
	*p = append(*p, b...)
	return len(b)
}

// cut takes the first bytes off, at most n.
func (p *pipe) cut(n int) []byte {
	n = min(n, len(*p))
	first := (*p)[:n]
	*p = (*p)[n:]
	return first
}
