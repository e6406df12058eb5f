package reel

import (
	"tiltyard/api"
	"tiltyard/server"
)

// Answer is what a server answers.
type Answer struct {
	Err    api.Errno
	Ticket string
	Sends  []server.Send
}

// mostSends is how many sends an answer's bytes can tell.
const mostSends = 65535

// Tell is the bytes of answers.
func Tell(answers ...Answer) []byte {
	var b []byte
	for _, a := range answers {
		ticket := a.Ticket[:min(len(a.Ticket), api.MaxText)]
		sends := a.Sends[:min(len(a.Sends), mostSends)]
		// An error may be any number: all but its lowest byte is left out.
		b = append(b, numbers("bb", uint64(byte(a.Err)), uint64(len(ticket)))...)
		b = append(b, ticket...)
		b = append(b, numbers("w", uint64(len(sends)))...)
		for _, s := range sends {
			b = append(b, numbers("bdbd", flag(s.Host), uint64(s.To), flag(s.Close), uint64(len(s.Bytes)))...)
			b = append(b, s.Bytes...)
		}
	}
	return b
}

// flag is 1 of what is so, else 0.
func flag(is bool) uint64 {
	if is {
		return 1
	}
	return 0
}
