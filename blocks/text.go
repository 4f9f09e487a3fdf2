package blocks

func appendText(b []byte, text string) []byte {
	if bits := packBits(text); len(bits) < len(text) {
		return append(appendCount(b, packed, len(bits)), bits...)
	}
	return append(appendCount(b, plain, len(text)), text...)
}

func (s *source) takeText() string {
	c := s.take()
	if packed.begins(c) {
		return unpackBits(s.takeBytes(s.takeCount(c, packed)))
	}
	return string(s.takeBytes(s.takeCount(c, plain)))
}
