package desk_test

import (
	"fmt"
	"strings"
	"testing"

	"tiltyard/desk"
)

// The calls are just these.
var (
	_ func() *desk.Desk                = desk.New
	_ func(*desk.Desk, string) string  = (*desk.Desk).Line
	_ func(string) string              = desk.Run
	_ interface{ Line(string) string } = desk.New()
)

// play is a desk, and who watches it.
type play struct {
	*testing.T
	d *desk.Desk
	// texts is how many texts there are, players are those who have entered.
	texts   int
	players []int
}

func fresh(t *testing.T) *play { return &play{T: t, d: desk.New()} }

// do is what a line tells, its lines parted by `; `.
func (p *play) do(line string) string {
	p.Helper()
	told := p.d.Line(line)
	if line == "" && told == "" {
		return ""
	}
	if !strings.HasSuffix(told, "\n") || strings.Contains(told, "\n\n") {
		p.Errorf("%q: %q is no lines", line, told)
	}
	return strings.ReplaceAll(strings.TrimSuffix(told, "\n"), "\n", "; ")
}

// see tells what is wrong with lines: each stands ahead of what it should tell, as `ask 1 ping 9 -> to 1 pong 9`.
func (p *play) see(lines ...string) {
	p.Helper()
	for _, x := range lines {
		line, want, _ := strings.Cut(x, " -> ")
		if got := p.do(line); got != want {
			p.Errorf("%s\n got %s\nwant %s", line, got, want)
		}
	}
}

// enter lets players log in, each at the connection of the same number.
func (p *play) enter(players ...int) {
	p.Helper()
	for _, n := range players {
		p.texts++
		p.players = append(p.players, n)
		p.see(
			fmt.Sprintf("issue %d %d -> text %d", n, n, p.texts),
			fmt.Sprintf("open %d -> ok", n),
			fmt.Sprintf("login %d %d -> to %d welcome %d 1500 1", n, p.texts, n, n),
		)
	}
}

// sit lets 7 and 8 have seats in the match 1, which is live, with the texts 3 and 4 as their tokens.
func sit(t *testing.T) *play {
	t.Helper()
	p := fresh(t)
	p.enter(7, 8)
	p.see(
		"host 1 hello -> ok",
		"ask 7 queue 0 -> to 7 ok 17; to 7 queued 0",
		"ask 8 queue 0 -> to 8 ok 17; to 8 queued 0",
		"tick 1 -> to 7 check 1 11; to 8 check 1 11",
		"ask 7 accept -> to 7 ok 19",
		"ask 8 accept -> to 7 check-over 1 0; to 8 ok 19; to 8 check-over 1 0; host 1 start 1 0 [ 7 ] [ 8 ]",
		"host 1 up -> to 7 seat 1 1 1 0 21 text 3; to 8 seat 1 1 2 1 21 text 4",
	)
	return p
}

// The chapter's examples, byte by byte.
func TestExamples(t *testing.T) {
	d := desk.New()
	for _, x := range [][2]string{
		{"issue 7 1", "text 1\n"}, {"open 1", "ok\n"}, {"login 1 1", "to 1 welcome 7 1500 1\n"}, {"ask 1 party", "to 1 party-is 0 0 [ ]\n"},
	} {
		if got := d.Line(x[0]); got != x[1] {
			t.Errorf("%s: %q, want %q", x[0], got, x[1])
		}
	}
}

// The document's ten examples of the whole, as far as lines can tell them: a line has no bytes, so no malformed ones.
func TestWhole(t *testing.T) {
	p := fresh(t)
	p.see(
		"open 1 -> ok",
		"ask 1 ping 9 -> to 1 pong 9",
		"issue 7 1 -> text 1",
		"login 1 1 -> to 1 welcome 7 1500 1",
		"open 2 -> ok",
		"login 2 1 -> to 2 error 1 12",
		"issue 8 2 -> text 2",
		"login 2 2 -> to 2 welcome 8 1500 1",
		"host 1 hello -> ok",
		"ask 1 queue 0 -> to 1 ok 17; to 1 queued 0",
		"ask 2 queue 0 -> to 2 ok 17; to 2 queued 0",
		"tick 1 -> to 1 check 1 11; to 2 check 1 11",
		"ask 1 accept -> to 1 ok 19",
		"ask 2 accept -> to 1 check-over 1 0; to 2 ok 19; to 2 check-over 1 0; host 1 start 1 0 [ 7 ] [ 8 ]",
		"host 1 up -> to 1 seat 1 1 1 0 21 text 3; to 2 seat 1 1 2 1 21 text 4",
		"come 1 3 -> to 1 live 1; host 1 joined 1 7",
		"come 1 3 -> host 1 refused 195 12",
		"tick 20 -> to 2 penalised 3 1 60; host 1 lost 1 8",
		"see 8 -> player 8 conn 2 status 1 rating 1500 party 0 ticket 0 check 0 match 0 level 1 until 81",
		"ask 2 queue 0 -> to 2 error 17 23",
		"host 1 result 1 1 -> to 1 over 1 1 1500",
		"host 1 result 1 1 -> host 1 refused 197 24",
	)
	q := fresh(t)
	q.enter(1, 2, 3)
	q.see(
		"ask 1 invite 2 -> to 1 ok 10; to 2 invited 1 1",
		"ask 2 join 1 -> to 1 party-now 1 1 [ 1 2 ]; to 2 ok 11; to 2 party-now 1 1 [ 1 2 ]",
		"ask 1 invite 3 -> to 1 ok 10; to 3 invited 1 1",
		"ask 3 join 1 -> to 1 party-now 1 1 [ 1 2 3 ]; to 2 party-now 1 1 [ 1 2 3 ]; to 3 ok 11; to 3 party-now 1 1 [ 1 2 3 ]",
		"ask 1 party -> to 1 party-is 1 1 [ 1 2 3 ]",
		"ask 1 queue 1 -> to 1 error 17 21",
	)
	s := sit(t)
	s.see("tick 29 -> to 7 penalised 3 1 60; to 8 penalised 3 1 60; host 1 lost 1 7; host 1 lost 1 8; host 1 drain 1")
	s = sit(t)
	s.see(
		"come 1 3 -> to 7 live 1; host 1 joined 1 7",
		"come 1 4 -> to 8 live 1; host 1 joined 1 8",
		"tick 30 -> to 7 over 1 3 1500; to 8 over 1 3 1500",
		"ask 7 penalty -> to 7 penalty-is 0 0",
	)
}

// P28.1: a desk's server has the usual config, and its modes are the chapter's.
func TestConfig(t *testing.T) {
	p := fresh(t)
	for conn := 1; conn <= 16; conn++ {
		p.see(fmt.Sprintf("open %d -> ok", conn))
	}
	p.see("open 17 -> error 10", "tick 99 -> ok", "ask 3 time -> to 3 time-is 99", "open 1 -> error 11")
	if got := p.do("tick 1"); strings.Count(got, "bye 9") != 15 || strings.Contains(got, "to 3 ") {
		t.Errorf("idle: %s", got)
	}
	p.see("ask 4 time -> error 12", "host 4 hello -> ok", "host 5 hello -> error 12", "host 0 hello -> error 12")

	p = fresh(t)
	p.enter(1)
	p.see("ask 1 queue 2 -> to 1 error 17 20", "queue 2 -> ok", "issue 9 9 -> text 2", "tick 51 -> ok", "open 2 -> ok", "login 2 2 -> to 2 error 1 9")
	p.see("issue 10 10 -> text 3", "tick 50 -> to 1 bye 9; close 1", "login 2 3 -> to 2 welcome 10 1500 1")
}

// P28.1: what each line tells, its errors, too.
func TestLines(t *testing.T) {
	p := fresh(t)
	p.see(
		"now -> now 0",
		"issue 0 1 -> error 14", "issue 4294967295 1 -> error 14", "issue 2147483648 1 -> error 14",
		"issue 2147483647 0 -> text 1", "issue 7 0 -> error 11", "issue 7 999999999999999999 -> text 2", "issue 8 999999999999999999 -> error 11",
		"open 0 -> error 14", "open 4294967295 -> error 14", "open 2147483647 -> ok", "open 2147483647 -> error 11", "open 1 -> ok",
		"login 2147483647 1 -> to 2147483647 welcome 2147483647 1500 1",
		"login 3 2 -> error 12", "login 1 1 -> to 1 error 1 12", "login 1 2 -> to 1 welcome 7 1500 1", "login 1 2 -> to 1 error 1 25",
		"ask 1 ping 0 -> to 1 pong 0", "ask 1 ping 4294967295 -> to 1 pong 4294967295", "ask 1 rating 2147483647 -> to 1 rating-is 2147483647 1500",
		"ask 3 ping 1 -> error 12", "ask 4294967295 ping 1 -> error 12", "ask 0 time -> error 12",
		"shut 3 -> error 12", "shut 0 -> error 12", "shut 4294967295 -> error 12", "shut 2147483647 -> ok", "shut 2147483647 -> error 12",
		"see 2147483647 -> player 2147483647 conn 0 status 0 rating 1500 party 0 ticket 0 check 0 match 0 level 0 until 0",
		"see 0 -> error 12", "see 4294967295 -> error 12", "see 8 -> error 12",
		"gone 3 1 -> error 12", "gone 4294967295 999999999999999999 -> error 12", "gone 1 999999999999999999 -> ok", "gone 1 0 -> ok", "gone 0 0 -> error 12",
		"queue 0 -> ok", "queue 1 -> ok", "queue 2 -> ok", "queue 4294967295 -> ok",
		"match 0 -> error 12", "match 1 -> error 12", "match 4294967295 -> error 12",
		"host 4294967295 hello -> error 12", "host 5 beat -> error 12", "come 5 1 -> error 12", "come 0 1 -> error 12", "come 4294967295 1 -> error 12",
		"host 1 beat -> host 1 refused 193 24", "come 1 1 -> host 1 refused 195 24", "host 4 freed -> host 4 refused 198 24",
		"draw 0 -> ok", "draw 999999999999999999 -> ok",
		"tick 0 -> ok", "now -> now 0", "tick 5 -> ok", "now -> now 5", "ask 1 time -> to 1 time-is 5",
		"shut 1 -> ok",
		"tick 999999999999999999 -> ok", "now -> now 1000000000000000004",
	)
	for range 9 {
		p.see("tick 999999999999999999 -> ok")
	}
	p.see("now -> now 9223372036854775807", "tick 1 -> ok", "now -> now 9223372036854775807", "issue 9 9 -> text 3", "open 9 -> ok", "login 9 3 -> to 9 welcome 9 1500 1", "ask 9 time -> to 9 time-is 9223372036854775807")
}

// P28.1: a line without any byte is nothing, wherever it comes.
func TestNothing(t *testing.T) {
	p := fresh(t)
	for range 3 {
		if got := p.d.Line(""); got != "" {
			t.Errorf("%q", got)
		}
	}
	p.see("now -> now 0")
	if got := p.d.Line(""); got != "" {
		t.Errorf("%q", got)
	}
}

// P28.1: messages with several lists, with texts, and those of a send that closes, are told as the chapter says.
func TestTold(t *testing.T) {
	p := fresh(t)
	p.enter(1, 2, 3, 4)
	p.see(
		"ask 1 friends -> to 1 friend-list [ ] [ ] [ ]",
		"ask 1 friend-ask 3 -> to 1 ok 3; to 3 friend-asked 1",
		"ask 3 friend-accept 1 -> to 1 friend-now 3 1; to 3 ok 4; to 3 friend-now 1 1",
		"ask 1 friend-ask 4 -> to 1 ok 3; to 4 friend-asked 1",
		"ask 4 friend-ask 1 -> to 1 friend-now 4 1; to 4 ok 3; to 4 friend-now 1 1",
		"ask 1 friend-ask 2 -> to 1 ok 3; to 2 friend-asked 1",
		"ask 1 friends -> to 1 friend-list [ 3 4 ] [ 2 ] [ ]",
		"ask 2 friends -> to 2 friend-list [ ] [ ] [ 1 ]",
		"open 5 -> ok",
		"issue 1 99 -> text 5",
		"login 5 5 -> to 1 bye 11; close 1; to 5 welcome 1 1500 1",
		"ask 1 time -> error 12",
		"shut 5 -> to 3 presence 1 0; to 4 presence 1 0",
		"ask 3 logout -> to 3 ok 25",
		"ask 4 logout -> to 4 ok 25",
		"tick 99 -> ok",
		"ask 2 time -> to 2 time-is 99",
		"tick 1 -> to 3 bye 9; close 3; to 4 bye 9; close 4",
		"tick 98 -> ok",
		"tick 1 -> to 2 bye 9; close 2",
		"tick 100 -> ok",
	)
}

// P28.1: a connection to which no more may go is closed; only that is told.
func TestFull(t *testing.T) {
	p := fresh(t)
	p.see("open 1 -> ok", "open 2 -> ok")
	pings := func(many int) {
		t.Helper()
		for n := range many {
			if n%20 == 0 {
				p.see("tick 1 -> ok", "ask 2 ping 1 -> to 2 pong 1", "gone 2 7 -> ok")
			}
			p.see("ask 1 ping 5 -> to 1 pong 5")
		}
	}
	// A pong has 7 bytes, and 8192 may be in flight.
	pings(1170)
	p.see("gone 1 4 -> ok")
	p.see("ask 1 ping 5 -> close 1", "ask 1 ping 5 -> error 12", "gone 1 5 -> error 12")
	p.see("open 1 -> ok")
	pings(1170)
	p.see("gone 1 5 -> ok", "ask 1 ping 5 -> to 1 pong 5", "gone 1 7 -> ok", "ask 1 ping 5 -> to 1 pong 5", "ask 1 ping 5 -> close 1")
	p.see("open 1 -> ok")
	pings(1170)
	p.see("gone 1 999999999999999999 -> ok", "tick 1 -> ok")
	pings(1170)
	p.see("ask 1 ping 5 -> close 1")
}

// P28.1: of more requests than may come between two ticks an error goes out.
func TestRate(t *testing.T) {
	p := fresh(t)
	p.see("open 1 -> ok")
	for range 20 {
		p.see("ask 1 ping 5 -> to 1 pong 5")
	}
	p.see("ask 1 ping 5 -> to 1 error 2 26", "ask 1 time -> to 1 error 26 26", "tick 0 -> ok", "ask 1 ping 5 -> to 1 pong 5")
}

// P28.1: texts are numbered as they come, issued ones and those that go out together, send by send.
func TestTexts(t *testing.T) {
	p := fresh(t)
	p.see(
		"issue 7 1 -> text 1", "issue 0 2 -> error 14", "issue 8 1 -> error 11", "issue 8 2 -> text 2",
		"open 9 -> ok", "open 4 -> ok",
		"login 9 1 -> to 9 welcome 7 1500 1", "login 4 2 -> to 4 welcome 8 1500 1",
		"host 2 hello -> ok",
		"ask 9 queue 0 -> to 9 ok 17; to 9 queued 0", "ask 4 queue 0 -> to 4 ok 17; to 4 queued 0",
		"tick 0 -> to 4 check 1 10; to 9 check 1 10",
		"ask 4 accept -> to 4 ok 19", "ask 9 accept -> to 4 check-over 1 0; to 9 ok 19; to 9 check-over 1 0; host 2 start 1 0 [ 7 ] [ 8 ]",
		"come 2 3 -> error 27", "login 9 3 -> error 27",
		"issue 5 3 -> text 3",
		"host 2 up -> to 4 seat 1 2 2 1 20 text 4; to 9 seat 1 2 1 0 20 text 5",
		"come 2 3 -> host 2 refused 195 7",
		"ask 9 token -> to 9 seat 1 2 1 0 20 text 6",
		"issue 6 4 -> text 7",
		"come 2 8 -> error 27",
		"come 2 5 -> host 2 refused 195 12",
		"come 1 6 -> host 1 refused 195 24",
		"come 2 4 -> to 4 live 1; host 2 joined 1 8",
		"come 2 6 -> to 9 live 1; host 2 joined 1 7",
		"open 5 -> ok",
		"login 5 6 -> to 5 error 1 7",
		"login 5 7 -> to 5 welcome 6 1500 1",
		"open 1 -> ok",
		"login 1 3 -> to 1 welcome 5 1500 1",
	)
}

// P28.1: a number that is drawn counts. A token is made anew, with the number that the old one had: it is the same one.
func TestDraw(t *testing.T) {
	for _, x := range []struct{ first, second, come string }{
		{"draw 10", "draw 8", "come 1 3 -> to 7 live 1; host 1 joined 1 7"},
		{"draw 999999999999999999", "draw 999999999999999997", "come 1 3 -> to 7 live 1; host 1 joined 1 7"},
		{"draw 10", "draw 7", "come 1 3 -> host 1 refused 195 12"},
		{"now", "now", "come 1 3 -> host 1 refused 195 12"},
	} {
		p := fresh(t)
		p.do(x.first)
		p.enter(7, 8)
		for _, line := range []string{"host 1 hello", "ask 7 queue 0", "ask 8 queue 0", "tick 1", "ask 7 accept", "ask 8 accept", "host 1 up", x.second} {
			p.do(line)
		}
		p.see("ask 7 token -> to 7 seat 1 1 1 0 21 text 5", x.come)
	}
}

// P28.1: what see, queue and match tell of a match, from the queue to its end.
func TestLooks(t *testing.T) {
	p := fresh(t)
	p.enter(1, 2, 3, 4, 5)
	p.see(
		"host 3 hello -> ok", "tick 4 -> ok",
		"ask 1 invite 2 -> to 1 ok 10; to 2 invited 1 1",
		"ask 2 join 1 -> to 1 party-now 1 1 [ 1 2 ]; to 2 ok 11; to 2 party-now 1 1 [ 1 2 ]",
		"ask 5 queue 0 -> to 5 ok 17; to 5 queued 0",
		"ask 1 queue 1 -> to 1 ok 17; to 1 queued 1; to 2 queued 1",
		"tick 2 -> ok",
		"ask 4 queue 1 -> to 4 ok 17; to 4 queued 1",
		"queue 0 -> ticket 1 since 4 rating 1500 players 5",
		"queue 1 -> ticket 2 since 4 rating 1500 players 1 2; ticket 3 since 6 rating 1500 players 4",
		"queue 2 -> ok",
		"see 2 -> player 2 conn 2 status 2 rating 1500 party 1 ticket 2 check 0 match 0 level 0 until 0",
		"see 4 -> player 4 conn 4 status 2 rating 1500 party 0 ticket 3 check 0 match 0 level 0 until 0",
		"ask 3 queue 1 -> to 3 ok 17; to 3 queued 1",
		"tick 1 -> to 1 check 1 17; to 2 check 1 17; to 3 check 1 17; to 4 check 1 17",
		"queue 1 -> ok", "match 1 -> error 12",
		"see 3 -> player 3 conn 3 status 3 rating 1500 party 0 ticket 0 check 1 match 0 level 0 until 0",
		"ask 1 accept -> to 1 ok 19", "ask 2 accept -> to 2 ok 19", "ask 4 accept -> to 4 ok 19",
		"ask 3 decline -> to 1 check-over 1 1; to 1 queued 1; to 2 check-over 1 1; to 2 queued 1; to 3 ok 20; to 3 check-over 1 1; to 3 penalised 1 1 60; to 3 unqueued 1; to 4 check-over 1 1; to 4 queued 1",
		"see 3 -> player 3 conn 3 status 1 rating 1500 party 0 ticket 0 check 0 match 0 level 1 until 67",
		"queue 1 -> ticket 2 since 4 rating 1500 players 1 2; ticket 3 since 6 rating 1500 players 4",
	)
	p.see(
		"tick 60 -> ok", "shut 5 -> ok", "open 5 -> ok", "queue 0 -> ok",
		"see 5 -> player 5 conn 0 status 0 rating 1500 party 0 ticket 0 check 0 match 0 level 0 until 0",
		"host 3 hello -> ok",
		"ask 3 queue 1 -> to 3 ok 17; to 3 queued 1",
		"queue 1 -> ticket 2 since 4 rating 1500 players 1 2; ticket 3 since 6 rating 1500 players 4; ticket 5 since 67 rating 1500 players 3",
		"tick 1 -> to 1 check 2 78; to 2 check 2 78; to 3 check 2 78; to 4 check 2 78",
		"ask 1 accept -> to 1 ok 19", "ask 2 accept -> to 2 ok 19", "ask 4 accept -> to 4 ok 19",
		"ask 3 accept -> to 1 check-over 2 0; to 2 check-over 2 0; to 3 ok 19; to 3 check-over 2 0; to 4 check-over 2 0; host 3 start 2 1 [ 1 2 ] [ 4 3 ]",
		"match 1 -> error 12",
		"match 2 -> match 2 mode 1 instance 3; seat 0 player 1 team 1 state 1; seat 1 player 2 team 1 state 1; seat 2 player 4 team 2 state 1; seat 3 player 3 team 2 state 1",
		"host 3 up -> to 1 seat 2 3 1 0 88 text 6; to 2 seat 2 3 1 1 88 text 7; to 3 seat 2 3 2 3 88 text 8; to 4 seat 2 3 2 2 88 text 9",
	)
}
