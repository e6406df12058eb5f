package frame

// ahead is how many bytes a frame's length has.
const ahead = 2

// held are bytes that wait, the next frame's length at their beginning.
type held struct {
	bytes []byte
}

// many is how many wait.
func (h *held) many() int { return len(h.bytes) }

// put puts bytes behind those that wait.
func (h *held) put(b []byte) { h.bytes = append(h.bytes, b...) }

// length is the next frame's; false, as long as it did not come.
func (h *held) length() (int, bool) {
	if len(h.bytes) < ahead {
		return 0, false
	}
	return int(h.bytes[0])<<8 | int(h.bytes[1]), true
}

// has tells whether a frame of so many bytes is whole.
func (h *held) has(many int) bool { return len(h.bytes) >= ahead+many }

// take takes the next frame, of so many bytes, and its length.
func (h *held) take(many int) []byte {
	frame := fresh(h.bytes[ahead : ahead+many])
	h.bytes = h.bytes[ahead+many:]
	return frame
}

// settle moves what waits into memory of its own: a slice would keep all the frames ahead of it, too.
func (h *held) settle() { h.bytes = fresh(h.bytes) }

// fresh is the same bytes in memory that nobody else has.
func fresh(b []byte) []byte { return append([]byte(nil), b...) }
