// Package field is layer 1, numbers, texts and lists as bytes, by a shape: see shared/doc/01-field.md.
package field

import (
	"strings"

	"tiltyard/api"
)

// Fields are a shape's numbers, texts and lists.
type Fields struct {
	N []uint64
	S []string
	L [][]uint32
}

// Right tells whether a text is a shape.
func Right(shape string) bool { return Least(shape) >= 0 }

// Least is how many bytes fields of a shape have at least; -1, if it is none.
func Least(shape string) int {
	if len(shape) > api.MaxFields {
		return -1
	}
	least := 0
	for i := range len(shape) {
		many := width(shape[i])
		if many == 0 {
			return -1
		}
		least += many
	}
	return least
}

// Write is the bytes of a shape's fields.
func Write(shape string, f Fields) ([]byte, api.Errno) {
	if !Right(shape) || !matches(shape, f) {
		return nil, api.ErrShape
	}
	var b []byte
	for i := range len(shape) {
		var fits bool
		switch letter := shape[i]; letter {
		case 's':
			b, fits = putText(b, f.S[0])
			f.S = f.S[1:]
		case 'l':
			b, fits = putList(b, f.L[0])
			f.L = f.L[1:]
		default:
			b, fits = putNumber(b, f.N[0], width(letter))
			f.N = f.N[1:]
		}
		if !fits {
			return nil, api.ErrRange
		}
	}
	return b, api.OK
}

// Read is the fields of a shape whose bytes they are.
func Read(shape string, b []byte) (Fields, api.Errno) {
	if !Right(shape) {
		return Fields{}, api.ErrShape
	}
	g := gatherer{reader: reader{rest: b}}
	for i := range len(shape) {
		g.gather(shape[i])
	}
	switch {
	case g.short:
		return Fields{}, api.ErrShort
	case len(g.rest) > 0:
		return Fields{}, api.ErrLong
	}
	return g.fields, api.OK
}

// Put is bytes with a number's lowest so many bytes behind them.
func Put(b []byte, n uint64, many int) []byte {
	return put(fresh(b), many, n)
}

// Take is the number in the first so many bytes, and what is behind them.
func Take(b []byte, many int) (uint64, []byte, bool) {
	if many < 1 || many > 8 || len(b) < many {
		return 0, nil, false
	}
	r := reader{rest: b}
	n := r.number(many)
	return n, fresh(r.rest), true
}

// width is how many bytes a letter's number has, or the length of its text or list; 0, if it is no letter.
func width(letter byte) int {
	switch letter {
	case 'b', 's', 'l':
		return 1
	case 'w':
		return 2
	case 'd':
		return 4
	case 'q':
		return 8
	}
	return 0
}

// matches tells whether fields are as many of each kind as a shape has.
func matches(shape string, f Fields) bool {
	texts, lists := strings.Count(shape, "s"), strings.Count(shape, "l")
	return len(f.S) == texts && len(f.L) == lists && len(f.N) == len(shape)-texts-lists
}

// fresh is the same bytes in memory that nobody else has.
func fresh(b []byte) []byte { return append([]byte(nil), b...) }

// put puts numbers of so many bytes each behind bytes, and may write into what b has room for.
func put[N int | uint32 | uint64](b []byte, many int, numbers ...N) []byte {
	// A number has no more than 8 bytes; a great many would not go into the shift, either.
	many = min(max(many, 0), 8)
	for _, n := range numbers {
		for i := many - 1; i >= 0; i-- {
			b = append(b, byte(uint64(n)>>(8*i)))
		}
	}
	return b
}

func putNumber(b []byte, n uint64, many int) ([]byte, bool) {
	if n>>(8*many) != 0 {
		return nil, false
	}
	return put(b, many, n), true
}

func putText(b []byte, text string) ([]byte, bool) {
	if len(text) > api.MaxText {
		return nil, false
	}
	return append(put(b, 1, len(text)), text...), true
}

func putList(b []byte, list []uint32) ([]byte, bool) {
	if len(list) > api.MaxList {
		return nil, false
	}
	return put(put(b, 1, len(list)), 4, list...), true
}
