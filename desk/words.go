package desk

import (
	"math"
	"strconv"
	"strings"

	"tiltyard/api"
	"tiltyard/frame"
	"tiltyard/verb"
)

// wrong is what is wrong with a line, as a panic: whatever reads a word leaves the whole line by it. All words are read ahead of what
// the line does, so that nothing has happened then.
type wrong api.Errno

// mostDigits is how many digits a number may have.
const mostDigits = 18

// The sides of the messages that lines send.
const (
	requests = 1
	reports  = 4
)

// must leaves the line by an error, unless something holds.
func must(holds bool, e api.Errno) {
	if !holds {
		panic(wrong(e))
	}
}

// check leaves the line by an error, if it is one.
func check(e api.Errno) { must(e == api.OK, e) }

// count leaves the line, unless it has so many words behind the first one.
func count(many int, words ...string) { must(len(words) == many, api.ErrOp) }

// number is a word's number.
func number(word string) uint64 {
	n, err := strconv.ParseUint(word, 10, 64)
	must(err == nil && len(word) <= mostDigits && (len(word) == 1 || !strings.HasPrefix(word, "0")), api.ErrOp)
	return n
}

// id is a word's id.
func id(word string) uint32 {
	n := number(word)
	must(n <= math.MaxUint32, api.ErrOp)
	return uint32(n)
}

// text is the text of which a word is the number.
func (d *Desk) text(word string) string {
	n := number(word)
	must(n >= 1 && n <= uint64(len(d.texts)), api.ErrOp)
	return d.texts[n-1]
}

// message is the bytes of a message of a side, by its name and its numbers. One kind of each side has a text, and a line of its own.
func message(side, but int, name string, words ...string) []byte {
	kind, _ := verb.Kind(name)
	must(verb.Side(kind) == side && kind != but, api.ErrOp)
	var numbers []uint64
	for _, word := range words {
		numbers = append(numbers, number(word))
	}
	return wrapped(verb.Make(kind, numbers...))
}

// wrapped is a message's bytes, wrapped.
func wrapped(m verb.Msg) []byte {
	b, e := verb.Encode(m)
	check(e)
	whole, e := frame.Wrap(b)
	check(e)
	return whole
}
