package desk

import (
	"strconv"
	"strings"

	"tiltyard/api"
	"tiltyard/frame"
	"tiltyard/server"
	"tiltyard/verb"
)

// answer is what is told of a call's sends, if it answered no error.
func (d *Desk) answer(sends []server.Send, e api.Errno) string {
	check(e)
	var told strings.Builder
	for _, x := range sends {
		// They come whole, and can be decoded: the server has made them of messages.
		frames, _ := frame.New().Feed(x.Bytes)
		for _, b := range frames {
			m, _ := verb.Decode(b)
			told.WriteString(line(d.words(x, m)...))
		}
		if x.Close {
			told.WriteString(line("close", decimal(x.To)))
		}
	}
	return unlessNothing(told.String())
}

// words are those that tell a message that goes out.
func (d *Desk) words(x server.Send, m verb.Msg) []string {
	to := "to"
	if x.Host {
		to = "host"
	}
	words := put([]string{to, decimal(x.To), verb.Name(m.Kind)}, m.N...)
	for _, l := range m.L {
		words = append(put(append(words, "["), l...), "]")
	}
	for _, text := range m.S {
		words = append(words, "text", d.keep(text))
	}
	return words
}

// keep keeps a text, which lines may name from then on, and is its number.
func (d *Desk) keep(text string) string {
	d.texts = append(d.texts, text)
	return decimal(len(d.texts))
}

// unlessNothing is what is told, or of nothing that all went well.
func unlessNothing(told string) string {
	if told == "" {
		return line("ok")
	}
	return told
}

// line is a line of words.
func line(words ...string) string { return strings.Join(words, " ") + "\n" }

// whole is any kind of numbers that are told.
type whole interface {
	~int | int64 | uint32 | uint64
}

// decimal is a number as a word. None of those that are told is below 0.
func decimal[N whole](n N) string { return strconv.FormatUint(uint64(n), 10) }

// put puts numbers behind words.
func put[N whole](words []string, numbers ...N) []string {
	for _, n := range numbers {
		words = append(words, decimal(n))
	}
	return words
}
