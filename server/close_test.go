package server_test

import (
	"strings"
	"testing"

	"tiltyard/api"
	"tiltyard/plan"
)

// friends is a play by a config in which some players are logged in, who are friends one with the other, and nothing is in flight.
func friends(t *testing.T, c plan.Config, players ...uint32) *play {
	t.Helper()
	p := with(t, c)
	p.enter(players...)
	for i, a := range players {
		for _, b := range players[:i] {
			p.quietly("tick 0")
			p.quietly(text2(a, "friend-ask", b), text2(b, "friend-accept", a))
			p.flow()
		}
	}
	p.quietly("tick 0")
	return p
}

// text2 is an event: what one player sends of another one.
func text2(from uint32, kind string, of uint32) string {
	return strings.Join([]string{itoa(from) + ":", kind, itoa(of)}, " ")
}

// fill lets so many bytes, of which there may be 1026, be in flight on a connection.
func (p *play) fill(conn uint32, want int) {
	p.Helper()
	for p.Gone(conn, 1026); p.Flying(conn)+11 <= 1026; {
		p.quietly("tick 0", itoa(conn)+": time")
	}
	p.Gone(conn, p.Flying(conn)+11-want)
	p.quietly("tick 0", itoa(conn)+": time", "tick 0")
	p.flies(conn, want)
}

// P26.2: Shut

func TestShut(t *testing.T) {
	p := friends(t, plan.Usual(duel), 1, 2, 3)
	p.see("open 9 -> ", "shut 9 -> ", "shut 9 -> error 12", "9: time -> error 12", "gone 9 1 -> error 12")
	p.see("shut 2 -> 1: presence 2 0; 3: presence 2 0", "shut 2 -> error 12")
	p.conns(1, 3)
	p.see("open 2 -> ", "2: login 2 -> 1: presence 2 1; 2: welcome 2 1500 1; 3: presence 2 1")
}

// Nothing goes to a connection that is shut, though it is told of the ticket that is dropped by that.
func TestShutQueued(t *testing.T) {
	p := friends(t, plan.Usual(plan.Mode{K: 2, Every: 1}), 1, 2)
	p.quietly("2: invite 1", "1: join 1", "2: queue 0")
	p.see("tick 0 -> ", "shut 1 -> 2: unqueued 0, presence 1 0")
	p.conns(2)
}

// A connection of which another one took the player is closed behind its bye.
func TestMoved(t *testing.T) {
	p := friends(t, plan.Usual(duel), 1, 2)
	p.see("open 5 -> ", "5: login 1 -> 1: bye 11, closed; 5: welcome 1 1500 1", "1: time -> error 12", "gone 1 1 -> error 12", "shut 1 -> error 12")
	p.flies(1, 0)
	p.conns(2, 5)
	p.see("shut 5 -> 2: presence 1 0", "open 1 -> ", "1: time -> 1: time-is 0")
	p.flies(1, 11)
}

// What a connection sends behind a request by which another one is closed does not reach that one any more.
func TestMovedAhead(t *testing.T) {
	p := friends(t, plan.Usual(duel), 1, 2)
	p.see("open 5 -> ", "5: login 2, ping 3, friend-remove 1, login 2 -> 1: friend-gone 2; 2: bye 11, closed; 5: welcome 2 1500 1, pong 3, ok 6, error 1 25")
	p.see("2: bytes 0 0 -> error 12")
}

func TestIdle(t *testing.T) {
	p := friends(t, plan.Usual(duel), 1, 2, 3)
	p.see("tick 60 -> ", "2: ping 1 -> 2: pong 1", "tick 40 -> 1: bye 9, closed; 2: presence 1 0, presence 3 0; 3: bye 9, closed")
	p.conns(2)
	p.see("1: time -> error 12", "3: time -> error 12", "open 1 -> ", "1: time -> 1: time-is 100")
}

// Whoever is idle, and can't be told so, is closed without a word.
func TestIdleFull(t *testing.T) {
	p := friends(t, rated(20, 1026), 1, 2)
	p.fill(1, 1026-2)
	p.see("tick 100 -> 1: closed; 2: bye 9, closed")
	p.conns()
}

// Bytes that are malformed are to all others as if the connection had been shut.
func TestMalformedAsShut(t *testing.T) {
	for _, how := range []string{"shut 2", "2: bytes 0 0", "2: bytes 0 1 17", "2: bytes 255 255 0 1 26"} {
		p := friends(t, plan.Usual(plan.Mode{K: 2, Every: 1}), 1, 2, 3)
		p.quietly("1: invite 2", "2: join 1", "1: queue 0", "open 9")
		p.flow()
		got := p.do(how)
		own, others, _ := strings.Cut(got, "; 3: ")
		first, own, _ := strings.Cut(own, "; 2: ")
		if first != "1: unqueued 0, presence 2 0" || others != "presence 1 1, presence 2 0" || own != "" && !strings.HasSuffix(own, ", closed") {
			t.Errorf("%s: %s", how, got)
		}
		p.conns(1, 3, 9)
	}
}

// A connection is told why its bytes are wrong ahead of all that comes of its being closed.
func TestMalformedSelf(t *testing.T) {
	p := with(t, plan.Usual(plan.Mode{K: 2, Every: 1}))
	p.enter(1, 2)
	p.quietly("1: invite 2", "2: join 1", "1: queue 0")
	p.see("2: bytes 0 5 2 0 0 0 9 0 0 -> 1: unqueued 0; 2: pong 9, error 0 6, closed")
}

// P26.2, P26.3: no more bytes are in flight than may

// A reply that finds no room closes its connection, and the frames behind it are not taken.
func TestFull(t *testing.T) {
	p := friends(t, rated(20, 1026), 1, 2)
	p.fill(1, 1026-7)
	p.see("1: ping 1 -> 1: pong 1")
	p.flies(1, 1026)
	p.see("gone 1 7 -> ", "1: ping 2, ping 3, logout, ping 4 -> 1: pong 2, closed; 2: presence 1 0", "1: ping 1 -> error 12")
	p.flies(1, 0)
	p.conns(2)
}

// Each byte of room counts.
func TestFullAlmost(t *testing.T) {
	for short := range 9 {
		p := friends(t, rated(20, 1026), 1, 2)
		p.fill(1, 1026-short)
		if short < 7 {
			p.see("1: ping 3 -> 1: closed; 2: presence 1 0")
		} else {
			p.see("1: ping 3 -> 1: pong 3")
			p.flies(1, 1026-short+7)
		}
	}
}

// An error that finds no room closes, too: of a rate, of bytes that are no message, of a length.
func TestFullErrors(t *testing.T) {
	for line, short := range map[string]int{
		"1: time, time -> 1: time-is 0, closed; 2: presence 1 0":              11 + 4,
		"1: bytes 0 1 17 0 1 26 -> 1: closed; 2: presence 1 0":                4,
		"1: bytes 0 0 -> 1: closed; 2: presence 1 0":                          4,
		"1: bytes 0 1 26 0 1 26 0 0 -> 1: time-is 0, closed; 2: presence 1 0": 11 + 4,
	} {
		p := friends(t, rated(1, 1026), 1, 2)
		p.fill(1, 1026-short)
		p.see(line, "1: time -> error 12", "2: time -> 2: time-is 0")
		p.conns(2)
	}
}

// One that is closed in the midst of what is sent gets nothing of the rest; what the hall says of it goes behind.
func TestFullMidst(t *testing.T) {
	p := friends(t, rated(20, 1026), 1, 2, 3)
	p.fill(1, 1026-6)
	p.see("2: queue 0 -> 1: closed; 2: ok 17, queued 0, presence 1 0; 3: presence 2 2, presence 1 0")
	p.conns(2, 3)
}

// What is said of a connection that is closed may close the next one, and so on; each of them once.
func TestFullChain(t *testing.T) {
	p := with(t, rated(20, 1026))
	p.enter(1, 2, 3, 4, 5)
	for _, l := range [][2]uint32{{1, 2}, {2, 3}, {3, 4}, {4, 5}} {
		p.quietly(text2(l[0], "friend-ask", l[1]), text2(l[1], "friend-accept", l[0]))
	}
	for conn := uint32(2); conn < 5; conn++ {
		p.fill(conn, 1026-7)
	}
	p.flow2(1, 5)
	p.see("shut 1 -> 2: closed; 3: closed; 4: closed; 5: presence 4 0")
	p.conns(5)
}

// flow2 lets all bytes have gone on two connections.
func (p *play) flow2(a, b uint32) {
	p.Gone(a, p.Flying(a))
	p.Gone(b, p.Flying(b))
}

// The outs of several connections that are closed go one behind the other.
func TestFullOrder(t *testing.T) {
	p := friends(t, rated(20, 1026), 1, 2, 3, 4)
	p.fill(3, 1026-1)
	p.fill(2, 1026-1)
	p.see("shut 4 -> 1: presence 4 0, presence 2 0, presence 3 0; 2: closed; 3: closed")
	p.conns(1)
}

// What is dropped with one that is closed is told to those who are there still.
func TestFullQueued(t *testing.T) {
	p := with(t, func() plan.Config {
		c := rated(20, 1026)
		c.Modes = []plan.Mode{{K: 2, Every: 1}}
		return c
	}())
	p.enter(1, 2)
	p.quietly("1: invite 2", "2: join 1")
	p.fill(2, 1026-3)
	p.see("1: queue 0 -> 1: ok 17, queued 0, unqueued 0; 2: closed")
	if p.Queue(0) != nil {
		t.Error("the ticket is there still")
	}
}

// A match whose players' connections are full goes on, and its host is told all.
func TestFullMatch(t *testing.T) {
	p := with(t, rated(20, 1026))
	p.enter(1, 2)
	p.quietly("host 1: hello", "1: queue 0", "2: queue 0", "tick 0", "1: accept")
	p.fill(1, 1026-7)
	p.see("2: accept -> 1: closed; 2: ok 19, check-over 1 0; host 1: start 1 0 [1] [2]")
	p.see("host 1: up -> 2: seat 1 1 2 1 20", "open 1 -> ", "1: login 1 -> 1: welcome 1 1500 4", "1: token -> 1: seat 1 1 1 0 20")
	p.see("host 1: come 1 -> 1: live 1; host 1: joined 1 1")
}

// A hall's own calls are a server's: what is closed by them is told at the next event by which something is sent.
func TestHallsClose(t *testing.T) {
	p := friends(t, plan.Usual(duel), 1, 2)
	if outs := p.Close(1); len(outs) != 1 || outs[0].To != 2 || outs[0].Msg.Kind != api.KPresence {
		t.Errorf("Close: %v", outs)
	}
	p.conns(2)
	p.see("tick 0 -> 1: closed", "1: time -> error 12", "2: ping 1 -> 2: pong 1")
	p.Close(2)
	p.see("open 2 -> ", "2: time -> 2: time-is 0")
	p.flies(2, 11)
}
