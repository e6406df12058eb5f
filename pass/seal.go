package pass

import (
	"tiltyard/api"
	"tiltyard/field"
	"tiltyard/mac"
)

// The shapes (layer 1) of what is sealed, and the mark that each begins with.
const (
	ticketShape = "bdqq"
	ticketMark  = 116
	tokenShape  = "bddwbqq"
	tokenMark   = 106
)

// tagLength is how many bytes a tag has.
const tagLength = 32

// seal is the bytes of a shape's numbers, the mark among them, and their tag behind.
func seal(k *mac.Key, shape string, numbers ...uint64) string {
	// All numbers fit by their types, and are as many as the shape has: there is no error.
	b, _ := field.Write(shape, field.Fields{N: numbers})
	tag := k.Tag(b)
	return string(append(b, tag[:]...))
}

// open is the numbers that were sealed, the mark among them.
func open(k *mac.Key, shape string, mark byte, s string) ([]uint64, api.Errno) {
	many := field.Least(shape)
	if len(s) != many+tagLength || s[0] != mark {
		return nil, api.ErrForm
	}
	b, tag := []byte(s[:many]), []byte(s[many:])
	if !k.Fits(tag, b) {
		return nil, api.ErrTag
	}
	f, err := field.Read(shape, b)
	return f.N, err
}
