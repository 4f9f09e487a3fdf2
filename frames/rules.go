package frames

import "sluice/api"

// checkHead gives up by panic if no frame has this head.
func checkHead(h head) {
	if h.stream > api.MaxStream || !streamFits(h) {
		panic(api.FaultForm)
	}
	if h.length > api.MaxBody || !lengthFits(h) {
		panic(api.FaultSize)
	}
}

func streamFits(h head) bool {
	switch h.kind {
	case api.Data, api.Headers, api.Reset, api.Continue:
		return h.stream != 0
	case api.Settings, api.Ping, api.Goaway:
		return h.stream == 0
	}
	return true
}

func lengthFits(h head) bool {
	switch h.kind {
	case api.Reset, api.Goaway:
		return h.length == 1
	case api.Settings:
		if h.has(api.Ack) {
			return h.length == 0
		}
		return h.length == 4
	case api.Ping, api.Credit:
		return h.length == 4
	}
	return true
}

func (h head) has(flag int) bool { return h.flags&flag != 0 }

// checkBody gives up by panic if no frame with this head, which was checked, has this body.
func checkBody(h head, body []byte) {
	switch h.kind {
	case api.Data:
		if h.has(api.Padded) {
			checkPadding(body)
		}
	case api.Settings:
		if !h.has(api.Ack) {
			checkNumber(body, 0)
		}
	case api.Credit:
		checkNumber(body, 1)
	}
}

func checkPadding(body []byte) {
	if len(body) == 0 {
		panic(api.FaultForm)
	}
	p := int(body[0])
	if len(body) < p+1 {
		panic(api.FaultForm)
	}
	for _, c := range body[len(body)-p:] {
		if c != 0 {
			panic(api.FaultForm)
		}
	}
}

func checkNumber(body []byte, least uint32) {
	n := uint32(body[0])<<24 | uint32(body[1])<<16 | uint32(body[2])<<8 | uint32(body[3])
	if n < least || n > api.MaxNumber {
		panic(api.FaultForm)
	}
}
