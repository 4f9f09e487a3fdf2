package frames

import "sluice/api"

// checkHead gives up by panic if no frame has this head.
func checkHead(h head) {
	if h.stream > api.MaxStream || !streamFits(h) {
		panic(api.FaultForm)
	}
	if h.length > api.MaxBody || !lengthFits(h) {
		panic(api.FaultSize)
	}
}

func streamFits(h head) bool {
	switch h.kind {
	case api.Data, api.Headers, api.Reset, api.Continue:
		return h.stream != 0
	case api.Settings, api.Ping, api.Goaway:
		return h.stream == 0
	}
	return true
}

func lengthFits(h head) bool {
	switch h.kind {
	case api.Reset, api.Goaway:
		return h.length == 1
	case api.Settings:
		if h.flags&api.Ack != 0 {
			return h.length == 0
		}
		return h.length == 4
	case api.Ping, api.Credit:
		return h.length == 4
	}
	return true
}

// contentOf cuts off what pads the body of Data, and gives up by panic if the body is not padded as it says.
func contentOf(w whole) []byte {
	if !w.Has(api.Padded) {
		return w.Body
	}
	if len(w.Body) == 0 {
		panic(api.FaultForm)
	}
	p := int(w.Body[0])
	end := len(w.Body) - p
	if end < 1 {
		panic(api.FaultForm)
	}
	for _, c := range w.Body[end:] {
		if c != 0 {
			panic(api.FaultForm)
		}
	}
	return w.Body[1:end]
}

func settingOf(w whole) int {
	if w.Has(api.Ack) {
		return 0
	}
	return numberFrom(0, w.Body)
}

// numberFrom reads a number up to MaxNumber, and gives up by panic if it is above that, or below the least.
func numberFrom(least uint32, body []byte) int {
	n := number(body)
	if n < least || n > api.MaxNumber {
		panic(api.FaultForm)
	}
	return int(n)
}
