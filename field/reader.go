package field

// reader takes bytes from their beginning. Once they did not suffice it stays short, so that nobody need ask
// behind each field; what it answers from then on counts for nothing.
type reader struct {
	rest  []byte
	short bool
}

// cut takes the next so many bytes.
func (r *reader) cut(many int) []byte {
	if len(r.rest) < many {
		r.short = true
		return nil
	}
	b := r.rest[:many]
	r.rest = r.rest[many:]
	return b
}

func (r *reader) number(many int) uint64 {
	var n uint64
	for _, c := range r.cut(many) {
		n = n<<8 | uint64(c)
	}
	return n
}

func (r *reader) text() string {
	return string(r.cut(int(r.number(1))))
}

func (r *reader) list() []uint32 {
	list := make([]uint32, r.number(1))
	for i := range list {
		list[i] = uint32(r.number(4))
	}
	return list
}

// gatherer is a reader, and the fields that it has read.
type gatherer struct {
	reader
	fields Fields
}

// gather reads the field of a letter.
func (g *gatherer) gather(letter byte) {
	switch letter {
	case 's':
		g.fields.S = append(g.fields.S, g.text())
	case 'l':
		g.fields.L = append(g.fields.L, g.list())
	default:
		g.fields.N = append(g.fields.N, g.number(width(letter)))
	}
}
