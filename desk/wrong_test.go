package desk_test

import (
	"fmt"
	"slices"
	"strings"
	"testing"

	"tiltyard/desk"
	"tiltyard/verb"
)

// tale is a game of two, from its tickets to its end, with what else may come: a line of every kind is in it.
var tale = []string{
	"draw 5", "host 1 hello", "issue 7 1", "open 1", "login 1 1", "issue 8 2", "open 2", "login 2 2", "ask 1 friend-ask 8", "ask 2 friend-accept 7",
	"ask 1 queue 0", "see 7", "queue 0", "ask 2 queue 0", "tick 1", "ask 1 accept", "ask 2 accept", "host 1 up", "come 1 3", "come 1 4", "match 1",
	"ask 1 ping 9", "ask 1 time", "gone 1 5", "host 1 left 8", "host 1 result 1 1", "host 1 freed", "now", "shut 2", "see 8",
}

// notNumbers are words that are no numbers, notIds those that are no ids.
var (
	notNumbers = []string{
		"", "00", "01", "000", "007", "0000000000000000001", "+1", "-1", "-0", "1.0", "1,0", "1_0", "1e1", "0x1", "0b1", "0o1", "x", "A", "１", "٣", "1\t", "\t1", "1\r", "1\n", "\n1", "\x001", "1\x00",
		"1000000000000000000", "9223372036854775807", "9223372036854775808", "9999999999999999999", "18446744073709551615", "18446744073709551617", "100000000000000000000000000000",
	}
	notIds = append([]string{"4294967296", "4294967297", "10000000000", "999999999999999999"}, notNumbers...)
)

// shapes are what stands behind lines' first words: i an id, n a number, t a text's, m a message's name, and numbers.
var shapes = map[string]string{
	"issue": "in", "draw": "n", "open": "i", "shut": "i", "gone": "in", "tick": "n", "login": "it", "ask": "im", "come": "it", "host": "im", "see": "i", "queue": "i", "match": "i", "now": "",
}

// spoilt are what may be made of a line of the tale, and is none of the chapter's.
func spoilt(line string) []string {
	words := strings.Split(line, " ")
	shape := shapes[words[0]]
	l := []string{" " + line, line + " ", line + "  ", "  " + line, strings.ToUpper(line[:1]) + line[1:], "x" + line, line[1:], "\t" + line, line + "\n", "\n" + line, line + "\r"}
	for place := range words {
		l = append(l, strings.Join(slices.Insert(slices.Clone(words), place, ""), " "))
	}
	put := func(place int, with ...string) {
		for _, word := range with {
			other := slices.Clone(words)
			other[place] = word
			l = append(l, strings.Join(other, " "))
		}
	}
	put(0, "", "x", "Now", "NOW", "nows", "no", "text", "to", "player", "error", "ok")
	for place, what := range shape {
		switch what {
		case 'i':
			put(place+1, notIds...)
		case 'n':
			put(place+1, notNumbers...)
		case 't':
			put(place+1, notNumbers...)
			put(place+1, "0", "5", "999999999999999999", "4294967296", "4294967297", "4294967299")
		case 'm':
			put(place+1, names(words[0])...)
			for more := place + 2; more < len(words); more++ {
				put(more, notNumbers...)
			}
			for _, word := range notNumbers {
				l = append(l, line+" "+word, line+" 1 1 "+word+" 1")
			}
		}
	}
	// Too few words, and too many.
	for many := range shape {
		l = append(l, strings.Join(words[:many+1], " "))
	}
	if !strings.Contains(shape, "m") {
		l = append(l, line+" 1", line+" 1 1", line+" "+line)
	}
	return l
}

// names are those that may not stand in a line of ask, or host.
func names(first string) []string {
	side, but := 1, "login"
	if first == "host" {
		side, but = 4, "come"
	}
	l := []string{"", "x", "1", "0", "Queue", "QUEUE", "Hello", "queue\n", "friend ask", "friend_ask", "seats", but}
	for kind := -1; kind <= 300; kind++ {
		if verb.Side(kind) != side && verb.Name(kind) != "" {
			l = append(l, verb.Name(kind))
		}
	}
	return l
}

// P28.1: of any other line `error 27` is told, and nothing happens, wherever in a game it comes.
func TestOther(t *testing.T) {
	clean, d := desk.New(), desk.New()
	tried := 0
	strange := []string{
		" ", "  ", "\n", "\t", "\r", "\x00", "x", "0", "error 27", "\n\n", "now\nnow", "\xff\xfe",
		strings.Repeat("a", 100000), strings.Repeat(" ", 100000), "ask 1 ping" + strings.Repeat(" 1", 50000) + " x",
	}
	for _, line := range tale {
		for _, other := range slices.Concat(spoilt(line), strange) {
			// Without its only word a line is nothing.
			if other == "" {
				continue
			}
			tried++
			if got := d.Line(other); got != "error 27\n" {
				t.Fatalf("%.100q: %q", other, got)
			}
		}
		if got, want := d.Line(line), clean.Line(line); got != want || strings.Contains(want, "error") || strings.Contains(want, "refused") {
			t.Fatalf("%s: %q, want %q", line, got, want)
		}
	}
	if tried < 3000 {
		t.Errorf("only %d", tried)
	}
}

// notEncoded are lines of messages that can't be encoded, and what is told of each.
func notEncoded() map[string]string {
	lines := map[string]string{}
	put := func(kind int, want string, numbers ...string) {
		first := map[int]string{1: "ask", 4: "host"}[verb.Side(kind)]
		for _, id := range []string{"1", "2", "0", "99", "4294967295"} {
			lines[strings.Join(append([]string{first, id, verb.Name(kind)}, numbers...), " ")] = want
		}
	}
	for kind := 1; kind <= 198; kind++ {
		shape, _ := verb.Shape(kind)
		if side := verb.Side(kind); side != 1 && side != 4 || shape == "s" {
			continue
		}
		for many := range 10 {
			for _, number := range []string{"0", "256", "999999999999999999"} {
				if many != len(shape) {
					put(kind, "error 1\n", slices.Repeat([]string{number}, many)...)
				}
			}
		}
		for place := range shape {
			for number, bytes := range map[string]string{"256": "b", "4294967295": "b", "4294967296": "bd", "999999999999999999": "bd"} {
				numbers := slices.Repeat([]string{"1"}, len(shape))
				numbers[place] = number
				if strings.Contains(bytes, shape[place:place+1]) {
					put(kind, "error 2\n", numbers...)
				}
			}
		}
	}
	return lines
}

// P28.1: of a message that can't be encoded layer 4's error is told, and nothing happens, at a connection that is not there likewise.
func TestNotEncoded(t *testing.T) {
	lines := notEncoded()
	if len(lines) < 1000 {
		t.Fatalf("only %d", len(lines))
	}
	clean, d := desk.New(), desk.New()
	for _, line := range tale {
		for other, want := range lines {
			if got := d.Line(other); got != want {
				t.Fatalf("%s: %q, want %q", other, got, want)
			}
		}
		if got, want := d.Line(line), clean.Line(line); got != want {
			t.Fatalf("%s: %q, want %q", line, got, want)
		}
	}
}

// P28.1: of several things that are wrong the line is so ahead of the message, and the message ahead of the connection.
func TestFirst(t *testing.T) {
	p := fresh(t)
	p.see(
		"ask 9 ping x -> error 27", "ask 9 ping -> error 1", "ask 9 ping 4294967296 -> error 2", "ask 9 ping 4294967296 1 -> error 1", "ask 9 ping 1 -> error 12",
		"ask 9 queue 256 -> error 2", "ask 9 ping 01 1 -> error 27", "ask 4294967296 ping -> error 27", "ask 9 login -> error 27", "ask 9 login 1 -> error 27",
		"host 9 left -> error 1", "host 9 result 1 256 -> error 2", "host 9 left 1 -> error 12", "host 9 left x -> error 27", "host 4294967296 left -> error 27", "host 9 come -> error 27", "host 9 come 1 -> error 27",
		"login 9 1 -> error 27", "come 9 1 -> error 27", "issue 0 01 -> error 27", "gone 9 x -> error 27", "gone 9 1 -> error 12",
		"issue 7 1 -> text 1", "login 9 1 -> error 12", "come 9 1 -> error 12", "login 9 2 -> error 27",
	)
}

// P28.1: each request that has no text may be asked by its name, and each report told.
func TestNames(t *testing.T) {
	p := fresh(t)
	p.enter(1)
	for kind := 1; kind <= 198; kind++ {
		shape, _ := verb.Shape(kind)
		numbers := strings.Repeat(" 99", len(shape))
		want := map[int]string{1: "to 1 ", 4: "host 1 refused "}[verb.Side(kind)]
		first := map[int]string{1: "ask", 4: "host"}[verb.Side(kind)]
		if first == "" || shape == "s" {
			continue
		}
		line := fmt.Sprintf("%s 1 %s%s", first, verb.Name(kind), numbers)
		got := p.do(line)
		if verb.Name(kind) == "hello" || verb.Name(kind) == "beat" {
			want = "ok"
		}
		if !strings.HasPrefix(got, want) {
			t.Errorf("%s: %s", line, got)
		}
		if verb.Name(kind) == "logout" {
			p.see("shut 1 -> ok", "issue 1 50 -> text 2", "open 1 -> ok", "login 1 2 -> to 1 welcome 1 1500 1")
		}
		p.do("tick 1")
	}
}
