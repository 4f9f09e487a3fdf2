package frames

import "sluice/api"

// Frame is a frame that was read: one of the types below, each of which is of one kind (Other of all that mean nothing).
type Frame interface {
	// Plain is the frame as it stands in its bytes.
	Plain() api.Frame
}

// whole is what the frames of all kinds have: stream, flags and body.
type whole struct {
	api.Frame
}

// Plain makes every type that has a whole a Frame.
func (w whole) Plain() api.Frame { return w.Frame }

// Has tells whether the frame has a flag.
func (w whole) Has(flag int) bool { return w.Flags&flag != 0 }

// Data carries bytes of a stream.
type Data struct {
	whole
	Content []byte // the body without what pads it
}

// Headers begins a block, and with that a stream.
type Headers struct {
	whole
	Piece []byte
}

// Reset gives a stream up.
type Reset struct {
	whole
}

// Settings tells the initial window, or with Ack that it was heard.
type Settings struct {
	whole
	Number int // 0 with Ack
}

// Ping asks for an answer, or with Ack is one.
type Ping struct {
	whole
	Number uint32
}

// Goaway says that its end is dead.
type Goaway struct {
	whole
}

// Credit grants more.
type Credit struct {
	whole
	Number int
}

// Continue is one more piece of a block.
type Continue struct {
	whole
	Piece []byte
}

// Other is of a kind that means nothing.
type Other struct {
	whole
}

// frameOf makes of a frame, whose head was checked, what its kind makes of it. It gives up by panic if its body is not as its kind must have it.
func frameOf(f api.Frame) Frame {
	w := whole{f}
	switch f.Kind {
	case api.Data:
		return Data{w, contentOf(w)}
	case api.Headers:
		return Headers{w, f.Body}
	case api.Reset:
		return Reset{w}
	case api.Settings:
		return Settings{w, settingOf(w)}
	case api.Ping:
		return Ping{w, number(f.Body)}
	case api.Goaway:
		return Goaway{w}
	case api.Credit:
		return Credit{w, numberFrom(1, f.Body)}
	case api.Continue:
		return Continue{w, f.Body}
	}
	return Other{w}
}
