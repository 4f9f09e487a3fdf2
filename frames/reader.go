package frames

import "sluice/api"

// Reader gathers bytes till they are a frame. The zero value has none yet.
type Reader struct {
	got  []byte // of the frame that has not ended yet
	head head   // means nothing as long as got has no whole head
}

type head struct {
	length, kind, flags, stream int
}

// Take reads one more byte, and tells the frame that ends with it, if one does. With the byte that is a fault it gives up by panic with that fault; behind that the reader is of no use.
func (r *Reader) Take(c byte) (Frame, bool) {
	r.got = append(r.got, c)
	if len(r.got) == headSize {
		r.head = headOf(r.got)
		checkHead(r.head)
	}
	if len(r.got) < headSize || len(r.got) < headSize+r.head.length {
		return nil, false
	}
	f := api.Frame{Kind: r.head.kind, Flags: r.head.flags, Stream: r.head.stream}
	// The body is copied, for the next frame is gathered in the same room.
	f.Body = append(f.Body, r.got[headSize:]...)
	r.got = r.got[:0]
	return frameOf(f), true
}

func headOf(b []byte) head {
	return head{
		length: int(b[0])<<8 | int(b[1]),
		kind:   int(b[2]),
		flags:  int(b[3]),
		stream: int(b[4])<<8 | int(b[5]),
	}
}
