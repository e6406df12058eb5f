package server_test

import (
	"math"
	"slices"
	"strings"
	"testing"

	"tiltyard/api"
	"tiltyard/hall"
	"tiltyard/plan"
	"tiltyard/pool"
	"tiltyard/server"
)

// rated is a config with so many requests between two ticks, and so many bytes in flight.
func rated(rate, out int) plan.Config {
	c := plan.Usual(duel)
	c.Rate, c.Out = rate, out
	return c
}

// repeat is a text so many times, with commas between.
func repeat(s string, n int) string { return strings.Join(slices.Repeat([]string{s}, n), ", ") }

// P26.1

func TestNewWrong(t *testing.T) {
	for i, c := range []plan.Config{{}, plan.Usual(), rated(0, 8192), rated(20, 1025), rated(20, 65537), plan.Usual(plan.Mode{K: 5, Every: 1})} {
		if s, e := server.New(c); s != nil || e != api.ErrPlan {
			t.Errorf("config %d: %v, %d", i, s, e)
		}
	}
	c := plan.Usual(duel)
	c.Instances, c.Conns = 0, 1
	p := with(t, c)
	p.see("host 1: hello -> error 12", "tick 1 -> ", "open 9 -> ", "open 8 -> error 10")
}

func TestOpen(t *testing.T) {
	c := plan.Usual(duel)
	c.Conns = 2
	p := with(t, c)
	for _, conn := range noIds {
		if e := p.Open(conn); e != api.ErrId {
			t.Errorf("Open of %d: %d", conn, e)
		}
	}
	p.see("open 2147483647 -> ", "open 2147483647 -> error 11", "open 5 -> ", "open 5 -> error 11", "open 6 -> error 10", "6: ping 1 -> error 12")
	p.conns(5, last)
}

// An error changes nothing: what came on a connection that is there already stays.
func TestOpenTwice(t *testing.T) {
	p := with(t, rated(1, 8192))
	p.see("open 1 -> ", "1: ping 7 -> 1: pong 7", "1: bytes 0 5 2 0 -> ", "open 1 -> error 11", "1: bytes 0 0 9 -> 1: error 2 26")
	p.flies(1, 12)
}

// A connection that is opened anew has a new reader, and a new flow.
func TestOpenAnew(t *testing.T) {
	p := with(t, rated(1, 8192))
	p.see("open 1 -> ", "1: ping 7 -> 1: pong 7", "1: bytes 0 5 2 0 -> ", "shut 1 -> ", "open 1 -> ")
	p.flies(1, 0)
	p.see("1: bytes 0 5 2 0 0 0 9 -> 1: pong 9", "1: time -> 1: error 26 26", "1: bytes 0 0 -> 1: error 0 6, closed", "open 1 -> ")
	p.flies(1, 0)
	p.see("1: time -> 1: time-is 0")
}

// What is the hall's is the server's.
func TestHalls(t *testing.T) {
	p := usual(t, 7, 8)
	if s, e := p.Issue(0, 1); s != "" || e != api.ErrId {
		t.Errorf("Issue for nobody: %q, %d", s, e)
	}
	if s, e := p.Issue(9, 50); len(s) != 53 || e != api.OK {
		t.Errorf("Issue: %q, %d", s, e)
	}
	if s, e := p.Issue(9, 50); s != "" || e != api.ErrExists {
		t.Errorf("Issue of a nonce that is there: %q, %d", s, e)
	}
	p.quietly("host 2: hello", "7: queue 0")
	if l := p.Queue(0); len(l) != 1 || l[0].Players[0] != 7 || p.Queue(1) != nil || p.Queue(-1) != nil {
		t.Errorf("the queue: %v", l)
	}
	p.quietly("8: queue 0", "tick 5")
	if p.Now() != 5 || !slices.Equal(p.Known(), []uint32{7, 8}) {
		t.Errorf("now %d, known %v", p.Now(), p.Known())
	}
	if x, is := p.See(8); !is || x != (hall.Seen{Player: 8, Conn: 8, Status: api.Checking, Rating: 1500, Check: 1}) {
		t.Errorf("See: %v, %v", x, is)
	}
	if x, is := p.See(9); is || x != (hall.Seen{}) {
		t.Errorf("See of who is not known: %v, %v", x, is)
	}
	p.Draw(100)
	p.quietly("7: accept", "8: accept", "host 2: up")
	m, is := p.Match(1)
	if !is || !slices.Equal(p.Matches(), []uint32{1}) || m.Instance != 2 || m.Seats[0].Nonce != 100 || m.Seats[1].Nonce != 101 {
		t.Errorf("the match: %v, %v", m, is)
	}
	if x, is := p.Instance(2); !is || x.State != pool.Live || x.Match != 1 {
		t.Errorf("the instance: %v, %v", x, is)
	}
	if x, is := p.Instance(5); is || x != (pool.Instance{}) {
		t.Errorf("an instance that is not there: %v, %v", x, is)
	}
	p.conns(7, 8)
}

// P26.2: Feed

func TestFeedMissing(t *testing.T) {
	p := usual(t, 1)
	for _, conn := range append(noIds, 2, last) {
		for _, b := range [][]byte{nil, {0}, {0, 0}, {0, 5, 2, 0, 0, 0, 9}} {
			if l, e := p.Feed(conn, b); l != nil || e != api.ErrMissing {
				t.Errorf("Feed on %d: %v, %d", conn, l, e)
			}
		}
		if l, e := p.Shut(conn); l != nil || e != api.ErrMissing {
			t.Errorf("Shut of %d: %v, %d", conn, l, e)
		}
		if e := p.Gone(conn, 1); e != api.ErrMissing {
			t.Errorf("Gone on %d: %d", conn, e)
		}
		p.flies(conn, 0)
	}
	p.conns(1)
}

func TestFeedPieces(t *testing.T) {
	p := usual(t, 1)
	p.see(
		"1: bytes -> ", "1: bytes 0 -> ", "1: bytes 5 2 0 -> ", "1: bytes 0 0 -> ", "1: bytes 9 0 -> 1: pong 9",
		"1: bytes 1 26 0 5 2 0 0 1 0 0 -> 1: time-is 0, pong 256", "1: bytes 1 26 -> 1: time-is 0",
	)
	p.conns(1)
}

// What can't be decoded is told, by its first byte, and closes the connection; frames behind it are not taken.
func TestFeedUndecoded(t *testing.T) {
	for _, line := range []string{
		"1: bytes 0 1 2 -> 1: error 2 3, closed",
		"1: bytes 0 4 2 0 0 0 -> 1: error 2 3, closed",
		"1: bytes 0 6 2 0 0 0 9 9 -> 1: error 2 4, closed",
		"1: bytes 0 2 26 0 -> 1: error 26 4, closed",
		"1: bytes 0 1 0 -> 1: error 0 5, closed",
		"1: bytes 0 2 28 2 -> 1: error 28 5, closed",
		"1: bytes 0 1 255 -> 1: error 255 5, closed",
		"1: bytes 0 3 1 5 7 -> 1: error 1 3, closed",
		"1: bytes 0 1 26 0 1 17 0 1 26 -> 1: time-is 0, error 17 3, closed",
		"1: bytes 0 1 17 0 0 -> 1: error 17 3, closed",
		"1: bytes 0 1 17 0 1 18 0 1 0 0 0 -> 1: error 17 3, closed",
		"1: bytes 0 5 160 0 0 0 1 -> 1: error 160 3, closed",
		"1: bytes 0 2 195 4 -> 1: error 195 3, closed",
	} {
		p := usual(t, 1, 2)
		p.see(line, "1: ping 1 -> error 12", "open 1 -> ", "1: ping 1 -> 1: pong 1", "2: ping 2 -> 2: pong 2")
	}
}

// Messages that can be decoded and are none for a hall to serve are answered, and close nothing.
func TestFeedOtherSides(t *testing.T) {
	p := usual(t, 1)
	p.see(
		"1: ok 17 -> 1: error 64 5", "1: pong 9, drain 3 -> 1: error 67 5, error 163 5", "1: hello -> 1: error 192 5",
		"1: queue 4 -> 1: error 17 20", "1: logout, queue 0 -> 1: ok 25, error 17 25",
	)
	p.conns(1)
}

func TestFeedWrongLength(t *testing.T) {
	for _, line := range []string{
		"1: bytes 0 0 -> 1: error 0 6, closed",
		"1: bytes 4 1 -> 1: error 0 6, closed",
		"1: bytes 255 255 -> 1: error 0 6, closed",
		"1: bytes 0 5 2 0 0 0 9 0 0 0 1 26 -> 1: pong 9, error 0 6, closed",
		"1: bytes 0 5 2 0 0 0 9 0 1 26 4 1 -> 1: pong 9, time-is 0, error 0 6, closed",
	} {
		p := usual(t, 1, 2)
		p.see(line, "1: ping 1 -> error 12", "open 1 -> ", "1: ping 1 -> 1: pong 1", "2: ping 2 -> 2: pong 2")
	}
	p := usual(t, 1)
	p.see("1: bytes 4 -> ", "1: bytes 0 -> ", "1: bytes 26 -> ")
	p.see("1: bytes" + strings.Repeat(" 0", 1022) + " -> ")
	p.see("1: bytes 0 -> 1: error 26 4, closed")
	p.conns()
}

// So many requests may come between two ticks: the next ones are told so, and nothing else happens by them.
func TestRate(t *testing.T) {
	p := with(t, rated(3, 8192))
	p.enter(1)
	p.quietly("tick 0")
	p.see(
		"1: ping 1, time -> 1: pong 1, time-is 0",
		"1: queue 0, queue 0, ping 9, logout -> 1: ok 17, queued 0, error 17 26, error 2 26, error 25 26",
		"1: cancel -> 1: error 18 26",
		"tick 0 -> ",
		"1: cancel, cancel, hello, hello -> 1: ok 18, unqueued 0, error 18 24, error 192 5, error 192 26",
		"tick -5 -> ",
		"1: "+repeat("time", 4)+" -> 1: time-is 0, time-is 0, time-is 0, error 26 26",
	)
}

// What can't be decoded is no request: it is told as what it is, however many came.
func TestRateUndecoded(t *testing.T) {
	p := with(t, rated(1, 8192))
	p.see("open 1 -> ", "1: time, time -> 1: time-is 0, error 26 26", "1: bytes 0 1 17 -> 1: error 17 3, closed")
	p.see("open 1 -> ", "1: time -> 1: time-is 0", "1: bytes 0 0 -> 1: error 0 6, closed")
	p.conns()
}

// Each connection has its own requests, and a tick is one of all of them.
func TestRateApart(t *testing.T) {
	p := with(t, rated(1, 8192))
	p.see("open 1 -> ", "open 2 -> ", "open 3 -> ")
	for range 3 {
		p.see("1: time, time -> 1: time-is 0, error 26 26", "2: time -> 2: time-is 0", "3: time, time -> 3: time-is 0, error 26 26", "tick 0 -> ")
	}
}

// A request that may not come does not touch its connection.
func TestRateIdle(t *testing.T) {
	c := rated(1, 8192)
	c.Idle = 10
	p := with(t, c)
	p.see("open 1 -> ", "open 2 -> ", "tick 9 -> ", "2: time, time -> 2: time-is 9, error 26 26", "tick 1 -> 1: bye 9, closed")
	p.see("2: time -> 2: time-is 10", "tick 9 -> ", "2: bytes 0 5 2 -> ", "tick 1 -> 2: bye 9, closed")
	p.conns()
}

// P26.2: HostFeed

func TestHostFeedMissing(t *testing.T) {
	p := usual(t)
	for _, id := range []uint32{0, 5, 6, 255, 256, 257, 65536, 65537, last, last + 1, last + 2, math.MaxUint32} {
		for _, b := range [][]byte{nil, {0}, {0, 0}, {0, 1, 192}} {
			if l, e := p.HostFeed(id, b); l != nil || e != api.ErrMissing {
				t.Errorf("HostFeed of %d: %v, %d", id, l, e)
			}
		}
	}
	p.see("host 1: beat -> host 1: refused 193 24", "host 4: beat -> host 4: refused 193 24")
}

func TestHostFeedPieces(t *testing.T) {
	p := usual(t)
	p.see(
		"host 2: bytes -> ", "host 2: bytes 0 -> ", "host 1: bytes 0 1 193 0 -> host 1: refused 193 24", "host 2: bytes 1 -> ",
		"host 2: bytes 192 0 -> ", "host 2: bytes 1 198 0 1 193 -> host 2: refused 198 24", "host 1: bytes 1 192 -> ",
	)
	for id := uint32(1); id <= 4; id++ {
		if x, _ := p.Instance(id); (x.State == pool.Free) != (id < 3) {
			t.Errorf("the instance %d: %v", id, x)
		}
	}
}

// A host is told what is wrong, and the next frames are taken.
func TestHostFeedUndecoded(t *testing.T) {
	p := usual(t)
	p.see(
		"host 1: bytes 0 2 192 0 -> host 1: refused 192 4",
		"host 1: bytes 0 1 0 0 1 193 0 1 255 0 1 196 0 1 192 0 1 198 -> host 1: refused 0 5, refused 193 24, refused 255 5, refused 196 3, refused 198 24",
		"host 1: time, ok 3 -> host 1: refused 26 5, refused 64 5",
	)
	if x, _ := p.Instance(1); x.State != pool.Free {
		t.Errorf("the instance: %v", x)
	}
}

// At a wrong length the rest of the bytes is lost; those that come then are read anew.
func TestHostFeedWrongLength(t *testing.T) {
	p := usual(t)
	p.see(
		"host 1: bytes 0 1 193 0 0 0 1 192 0 0 0 1 -> host 1: refused 193 24, refused 0 6",
		"host 1: beat -> host 1: refused 193 24",
		"host 1: bytes 4 -> ", "host 1: bytes 1 0 1 192 -> host 1: refused 0 6",
		"host 1: bytes 0 1 -> ", "host 2: bytes 255 255 -> host 2: refused 0 6", "host 1: bytes 193 -> host 1: refused 193 24",
		"host 1: hello, beat -> ",
	)
}

// Neither how many reports come nor how many bytes go to a host is bounded.
func TestHostUnbounded(t *testing.T) {
	p := with(t, rated(1, 1026))
	p.see("host 1: " + repeat("beat", 500) + " -> host 1: " + repeat("refused 193 24", 500))
	p.see("host 1: hello, beat -> ")
}

// P26.2: Gone and Flying

func TestGone(t *testing.T) {
	p := with(t, rated(20, 1026))
	p.see("open 1 -> ", "open 2 -> ", "1: ping 1, ping 2 -> 1: pong 1, pong 2", "2: time -> 2: time-is 0")
	p.flies(1, 14)
	p.flies(2, 11)
	p.see("gone 1 4 -> ", "gone 2 0 -> ", "gone 2 -5 -> ")
	p.flies(1, 10)
	p.flies(2, 11)
	p.see("gone 2 100 -> ", "gone 1 10 -> ", "gone 1 1 -> ", "tick 1 -> ", "gone 3 1 -> error 12")
	p.flies(1, 0)
	p.flies(2, 0)
	for _, n := range []int{math.MinInt, -1, math.MaxInt} {
		if e := p.Gone(1, n); e != api.OK {
			t.Errorf("Gone of %d: %d", n, e)
		}
	}
	p.flies(1, 0)
}

// A tick is none of the bytes in flight; where a connection was none are.
func TestFlying(t *testing.T) {
	p := usual(t, 1)
	p.see("1: time -> 1: time-is 0", "tick 3 -> ")
	p.flies(1, 11)
	p.see("shut 1 -> ")
	p.flies(1, 0)
	p.see("open 1 -> ", "1: time -> 1: time-is 3", "1: bytes 0 0 -> 1: error 0 6, closed")
	p.flies(1, 0)
}

// The last moment is reached, and stays.
func TestTickMost(t *testing.T) {
	p := usual(t, 1)
	p.quietly("tick 4611686018427387904")
	if l := p.Tick(math.MaxInt64); p.Now() != math.MaxInt64 || len(l) != 0 {
		t.Errorf("%d, %v", p.Now(), l)
	}
	p.Tick(math.MinInt64)
	p.see("tick 1 -> ", "open 2 -> ", "2: time -> 2: time-is 9223372036854775807")
}
