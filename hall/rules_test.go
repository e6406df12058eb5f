package hall_test

import (
	"fmt"
	"math"
	"reflect"
	"slices"
	"strings"
	"testing"

	"tiltyard/api"
	"tiltyard/fill"
	"tiltyard/hall"
	"tiltyard/penal"
	"tiltyard/plan"
	"tiltyard/pool"
	"tiltyard/queue"
	"tiltyard/seat"
	"tiltyard/verb"
)

// P24.3

func TestSee(t *testing.T) {
	p := usual(t, modes(duel), 7, 3)
	for _, id := range []uint32{0, 1, 8, 1 << 31, math.MaxUint32} {
		if x, is := p.See(id); is || x != (hall.Seen{}) {
			t.Errorf("of %d: %v, %v", id, x, is)
		}
	}
	see := func(want hall.Seen) {
		t.Helper()
		if x, is := p.See(want.Player); !is || x != want {
			t.Errorf("%v, %v, want %v", x, is, want)
		}
	}
	see(hall.Seen{Player: 7, Conn: 7, Status: api.Idle, Rating: 1500})
	p.quietly("7 invite 3", "3 invite 7", "open 20")
	see(hall.Seen{Player: 7, Conn: 7, Status: api.Idle, Rating: 1500, Party: 1})
	see(hall.Seen{Player: 3, Conn: 3, Status: api.Idle, Rating: 1500, Party: 2})
	p.Request(20, verb.Make(api.KLogin).With(p.ticket(3)))
	p.quietly("7 queue 0", "host 2 hello", "20 queue 0")
	see(hall.Seen{Player: 7, Conn: 7, Status: api.Queued, Rating: 1500, Party: 1, Ticket: 1})
	see(hall.Seen{Player: 3, Conn: 20, Status: api.Queued, Rating: 1500, Party: 2, Ticket: 2})
	p.quietly("tick 0")
	see(hall.Seen{Player: 3, Conn: 20, Status: api.Checking, Rating: 1500, Party: 2, Check: 1})
	p.quietly("7 accept", "20 accept")
	see(hall.Seen{Player: 3, Conn: 20, Status: api.Reserved, Rating: 1500, Party: 2, Match: 1})
	p.quietly("host 2 up", "host 2 come 3", "host 2 come 7")
	see(hall.Seen{Player: 3, Conn: 20, Status: api.Playing, Rating: 1500, Party: 2, Match: 1})
	p.quietly("host 2 left 3", "close 20")
	see(hall.Seen{Player: 3, Status: api.Away, Rating: 1500, Party: 2, Match: 1})
	p.quietly("tick 15", "host 2 result 1 1")
	see(hall.Seen{Player: 3, Status: api.Offline, Rating: 1500, Party: 2, Mark: penal.Mark{Level: 1, Since: 15, Until: 75}})
	p.quietly("tick 9999")
	see(hall.Seen{Player: 3, Status: api.Offline, Rating: 1500, Party: 2, Mark: penal.Mark{Level: 1, Since: 15, Until: 75}})
	p.quietly("tick 1")
	see(hall.Seen{Player: 3, Status: api.Offline, Rating: 1500, Party: 2})
	if got := p.Known(); !slices.Equal(got, []uint32{3, 7}) {
		t.Errorf("known are %v", got)
	}
}

// A mark is as it is now, however it stands in the book.
func TestSeenMark(t *testing.T) {
	p := begun(t)
	p.quietly("host 1 left 1", "tick 15", "host 1 result 1 1", "tick 60", "host 1 hello", "1 queue 0", "2 queue 0", "tick 0")
	p.enter(8)
	p.quietly("1 decline")
	if x, _ := p.See(1); x.Mark != (penal.Mark{Level: 2, Since: 75, Until: 375}) {
		t.Errorf("%v", x)
	}
	p.quietly("tick 10000")
	if x, _ := p.See(1); x.Mark != (penal.Mark{Level: 1, Since: 10075, Until: 375}) {
		t.Errorf("%v", x)
	}
	p.enter(1)
	p.same("1 penalty -> 1 penalty-is 1 0")
}

func TestLooks(t *testing.T) {
	p := usual(t, modes(duel, pairs), 9, 2, 5)
	p.quietly("9 queue 0", "5 queue 1", "host 1 hello", "host 2 hello")
	p.waits(0, queue.Ticket{Id: 1, Players: []uint32{9}, Rating: 1500})
	p.waits(1, queue.Ticket{Id: 2, Mode: 1, Players: []uint32{5}, Rating: 1500})
	for _, mode := range []int{-1, 2, 4, math.MinInt, math.MaxInt} {
		p.waits(mode)
	}
	if got := p.Conns(); !slices.Equal(got, []uint32{2, 5, 9}) {
		t.Errorf("the connections are %v", got)
	}
	if got := p.Known(); !slices.Equal(got, []uint32{2, 5, 9}) {
		t.Errorf("known are %v", got)
	}
	p.quietly("5 cancel", "5 queue 0", "tick 0", "9 accept", "5 accept")
	for _, id := range []uint32{0, 2, 1 << 31, math.MaxUint32} {
		if m, is := p.Match(id); is || !reflect.DeepEqual(m, seat.Match{}) {
			t.Errorf("the match %d is %v", id, m)
		}
	}
	m, is := p.Match(1)
	if !is || m.Id != 1 || m.Instance != 1 || len(m.Rows) != 2 || len(m.Seats) != 2 {
		t.Errorf("the match is %v, %v", m, is)
	}
	for _, id := range []uint32{0, 5, 16, math.MaxUint32} {
		if x, is := p.Instance(id); is || x != (pool.Instance{}) {
			t.Errorf("the instance %d is %v", id, x)
		}
	}
	// To look changes nothing.
	before := p.state()
	p.unchanged(before)
}

func TestNil(t *testing.T) {
	var h *hall.Hall
	for _, id := range []uint32{0, 1, math.MaxUint32} {
		if s, e := h.Issue(id, 1); s != "" || e != api.ErrMissing {
			t.Errorf("Issue: %q, error %d", s, e)
		}
		if e := h.Open(id); e != api.ErrMissing {
			t.Errorf("Open: error %d", e)
		}
		h.Draw(7)
		for kind := range 256 {
			if l := h.Request(id, fields(kind)); len(l) != 0 {
				t.Errorf("Request: %v", l)
			}
			if l := h.Report(id, fields(kind)); len(l) != 0 {
				t.Errorf("Report: %v", l)
			}
		}
		if l := h.Close(id); len(l) != 0 {
			t.Errorf("Close: %v", l)
		}
		if x, is := h.See(id); is || x != (hall.Seen{}) {
			t.Errorf("See: %v", x)
		}
		if m, is := h.Match(id); is || !reflect.DeepEqual(m, seat.Match{}) {
			t.Errorf("Match: %v", m)
		}
		if x, is := h.Instance(id); is || x != (pool.Instance{}) {
			t.Errorf("Instance: %v", x)
		}
	}
	if len(h.Tick(9)) != 0 || h.Now() != 0 || len(h.Known()) != 0 || len(h.Conns()) != 0 || len(h.Queue(0)) != 0 || len(h.Matches()) != 0 {
		t.Error("a nil hall has something")
	}
}

// P24.2: free seats are filled, more than one at a tick

// freed is a play of a mode, in which those who queue first have found matches, and some of them have lost their seats.
func freed(t *testing.T) *play {
	t.Helper()
	c := plan.Usual(pairs, duel)
	c.Idle, c.Beat, c.TokenLife, c.Conns, c.Players = 1000, 1000, 20, 32, 32
	p := with(t, c)
	for player := range uint32(20) {
		p.enter(player + 1)
	}
	p.quietly("host 1 hello", "host 2 hello", "1 queue 0", "2 queue 0", "3 queue 0", "4 queue 0", "5 queue 0", "6 queue 0", "7 queue 0", "8 queue 0", "tick 0")
	for player := range uint32(8) {
		p.quietly(line(player+1, "accept"))
	}
	p.quietly("host 1 up", "host 2 up", "host 1 come 1", "host 1 come 2", "host 2 come 5", "tick 19")
	return p
}

func TestFillMany(t *testing.T) {
	p := freed(t)
	p.party(10, 11)
	p.quietly("10 queue 0", "9 queue 0", "12 queue 0", "13 queue 0", "host 3 hello")
	// Match by match, and in each of them ticket by ticket; what is left over is found ahead of nothing.
	p.see("tick 1 -> 3 penalised 3 1 60; host 1 lost 1 3; 4 penalised 3 1 60; host 1 lost 1 4; 6 penalised 3 1 60; host 2 lost 2 6; 7 penalised 3 1 60; host 2 lost 2 7; 8 penalised 3 1 60; host 2 lost 2 8; " +
		"10 seat 1 1 2 2 40 #8; 11 seat 1 1 2 3 40 #9; host 1 filled 1 2 [10 11]; " +
		"9 seat 2 2 2 1 40 #10; host 2 filled 2 2 [9]; 12 seat 2 2 1 2 40 #11; host 2 filled 2 1 [12]; 13 seat 2 2 2 3 40 #12; host 2 filled 2 2 [13]")
	p.waits(0)
	p.instance(3, pool.Free, 0)
	// Who has sat down there comes, or is lost, as everybody is.
	p.see("host 1 come 11 -> host 1 joined 1 11; 11 live 1", "tick 19 -> ")
	p.see("12 token -> 12 seat 2 2 1 2 40 #13", "host 2 come 12 -> host 2 joined 2 12; 12 live 2",
		"tick 1 -> 10 penalised 3 1 60; host 1 lost 1 10; 9 penalised 3 1 60; host 2 lost 2 9; 13 penalised 3 1 60; host 2 lost 2 13")
}

// Seats are filled ahead of what is found, by tickets of the match's mode, if they may sit beside all rows, and only where an instance is live.
func TestFillFirst(t *testing.T) {
	p := freed(t)
	p.quietly("tick 1", "host 3 hello", "14 queue 1", "9 queue 0", "10 queue 0", "11 queue 0", "12 queue 0", "13 queue 0", "15 queue 1", "16 queue 0", "17 queue 0", "18 queue 0", "19 queue 0")
	got := parts(p.do("tick 1"))
	if n := slices.IndexFunc(got, func(s string) bool { return strings.Contains(s, " check ") }); n != 10 || got[9] != "host 2 filled 2 2 [13]" || got[10] != "16 check 3 31" {
		t.Errorf("%q", got)
	}
	// The other mode's tickets are found when there is an instance.
	p.waits(0)
	p.waits(1, queue.Ticket{Id: 9, Mode: 1, Players: []uint32{14}, Rating: 1500, Since: 20}, queue.Ticket{Id: 15, Mode: 1, Players: []uint32{15}, Rating: 1500, Since: 20})
	p.see("host 4 hello -> ", "tick 0 -> 14 check 4 31; 15 check 4 31")

	p = freed(t)
	p.quietly("host 1 result 1 0", "tick 1", "host 2 hello", "9 queue 0")
	p.see("tick 1 -> ")
	p.waits(0, queue.Ticket{Id: 9, Players: []uint32{9}, Rating: 1500, Since: 20})
}

// Whoever is too far from one of the rows waits on, till the windows are wide enough; a row's window grows no more.
func TestFillFits(t *testing.T) {
	c := plan.Usual(plan.Mode{K: 2, Base: 10, Step: 5, Cap: 40, Every: 10})
	c.Idle, c.Beat, c.Grace = 1000, 1000, 5
	p := with(t, c)
	p.enter(1, 2, 3, 4, 5, 6)
	p.quietly("host 1 hello", "1 queue 0", "2 queue 0", "5 queue 0", "6 queue 0", "tick 0", "1 accept", "2 accept", "5 accept", "6 accept",
		"host 1 up", "host 1 come 1", "host 1 come 2", "host 1 come 5", "host 1 come 6", "host 1 result 1 1", "host 1 freed")
	// 1 and 2 have 1516, 5 and 6 1484; 3 and 4 are new.
	p.quietly("5 queue 0", "6 queue 0", "3 queue 0")
	p.see("tick 9 -> ", "tick 1 -> ", "4 queue 0 -> 4 ok 17; 4 queued 0", "tick 10 -> ", "tick 9 -> ", "tick 1 -> 5 check 2 40; 3 check 2 40; 6 check 2 40; 4 check 2 40")
	p.quietly("5 accept", "6 accept", "3 accept", "4 accept", "host 1 up", "host 1 come 5", "host 1 come 6", "host 1 come 3", "host 1 come 4")
	rows := []fill.Row{
		{Team: 1, Players: []uint32{5}, Rating: 1484, Window: 25},
		{Team: 1, Players: []uint32{3}, Rating: 1500, Window: 25},
		{Team: 2, Players: []uint32{6}, Rating: 1484, Window: 25},
		{Team: 2, Players: []uint32{4}, Rating: 1500, Window: 20},
	}
	if m, _ := p.Match(2); !slices.EqualFunc(m.Rows, rows, sameRow) {
		t.Errorf("%v", m.Rows)
	}
	// 1 is 32 apart from those who stay, and never may sit there, as their windows stay what they were.
	p.quietly("host 1 left 3", "host 1 left 4", "1 queue 0", "tick 5")
	for range 20 {
		p.see("tick 10 -> ")
	}
	// Who is 16 apart may as soon as the own window is wide enough, whoever waits longer.
	p.enter(9)
	p.see("9 queue 0 -> 9 ok 17; 9 queued 0", "tick 19 -> ", "tick 1 -> 9 seat 2 1 1 1 275 #8; host 1 filled 2 1 [9]")
	p.waits(0, queue.Ticket{Id: 9, Players: []uint32{1}, Rating: 1516, Since: 30})
	rows = []fill.Row{rows[0], rows[2], {Team: 1, Players: []uint32{9}, Rating: 1500, Window: 20}}
	if m, _ := p.Match(2); !slices.EqualFunc(m.Rows, rows, sameRow) {
		t.Errorf("%v", m.Rows)
	}
}

// at is where a player is logged in.
func (p *play) at(player uint32) string {
	x, _ := p.See(player)
	return fmt.Sprint(x.Conn, " ")
}

// P10, whatever happens: a player is told the same, be others friends or not.
func TestStrangersByChance(t *testing.T) {
	for seed := range 30 {
		c := chanceOf(t, 1000+seed)
		set := c.m.set
		var all []event
		for range 600 {
			for _, v := range c.next() {
				c.apply(v)
				c.m.apply(v)
				all = append(all, v)
			}
		}
		watched := uint32(1 + seed%set.Players)
		// What the watched one is told, with the friendships of others and without them.
		told := func(without bool) string {
			p := with(t, set)
			var s strings.Builder
			for _, v := range all {
				if without && v.what == "request" && p.at(watched) != fmt.Sprint(v.id, " ") {
					v.msg = p.unfriendly(v, watched)
				}
				before := p.at(watched)
				for _, part := range parts(p.apply(v)) {
					if v.what != "open" && v.what != "issue" && (strings.HasPrefix(part, before) || strings.HasPrefix(part, p.at(watched))) {
						s.WriteString(part + "\n")
					}
				}
			}
			return s.String()
		}
		if with, without := told(false), told(true); with != without {
			t.Fatalf("seed %d: %d is told with friendships\n%s\nwithout\n%s", seed, watched, with, without)
		}
	}
}

// unfriendly is an event's message, or, if it makes or ends friendships in which a player has no part, one that does nothing.
func (p *play) unfriendly(v event, but uint32) verb.Msg {
	kinds := []int{api.KFriendAsk, api.KFriendAccept, api.KFriendRefuse, api.KFriendRemove}
	if !slices.Contains(kinds, v.msg.Kind) || len(v.msg.N) == 0 || v.msg.N[0] == uint64(but) {
		return v.msg
	}
	return verb.Make(api.KPing, 1)
}

// R4 and R6: the same events are answered the same, whatever becomes of the answers, and of what was handed in.
func TestAnswersAreNotKept(t *testing.T) {
	for seed := range 20 {
		c := chanceOf(t, 2000+seed)
		blotted := with(t, c.m.set)
		for step := range 600 {
			for _, v := range c.next() {
				want := c.apply(v)
				c.m.apply(v)
				if got := blotted.apply(blot(v)); got != want {
					t.Fatalf("seed %d, step %d: %v\n got: %s\nwant: %s", seed, step, v, got, want)
				}
				for _, l := range [][]uint32{blotted.Known(), blotted.Conns(), blotted.Matches()} {
					spoil(l)
				}
				l := blotted.state()
				if want := c.state(); !l.is(want) {
					t.Fatalf("seed %d, step %d: behind %v\n got: %v\nwant: %v", seed, step, v, l, want)
				}
				for _, tickets := range l.Queues {
					for _, t := range tickets {
						spoil(t.Players)
					}
					spoil(tickets)
				}
				for _, m := range l.Matches {
					for _, row := range m.Rows {
						spoil(row.Players)
					}
					spoil(m.Rows)
					spoil(m.Seats)
				}
			}
		}
	}
}

// spoil writes over all of a list, and over what room it has behind it.
func spoil[T any](l []T) {
	var none T
	l = l[:cap(l)]
	for i := range l {
		l[i] = none
	}
}

// blot is an event whose message is its own, so that it can be spoilt.
func blot(v event) event {
	m := verb.Make(v.msg.Kind, v.msg.N...).With(v.msg.S...).And(v.msg.L...)
	v.msg = m
	return v
}

// What is handed in is not changed; of what is answered no two messages share anything.
func TestMessagesShareNothing(t *testing.T) {
	c := chanceOf(t, 3001)
	for range 3000 {
		for _, v := range c.next() {
			c.m.apply(v)
			was := blot(v)
			outs := c.outs(v)
			if !reflect.DeepEqual(v.msg.N, was.msg.N) || !reflect.DeepEqual(v.msg.S, was.msg.S) || !reflect.DeepEqual(v.msg.L, was.msg.L) {
				t.Fatalf("%v was %v", v, was)
			}
			c.told(outs)
			for i, o := range outs {
				fill := func(n uint64) {
					for j := range o.Msg.N[:cap(o.Msg.N)] {
						o.Msg.N[:cap(o.Msg.N)][j] = n
					}
					for _, l := range o.Msg.L {
						for j := range l[:cap(l)] {
							l[:cap(l)][j] = uint32(n)
						}
					}
				}
				fill(uint64(i + 1))
				spoil(o.Msg.S)
			}
			for i, o := range outs {
				for _, n := range o.Msg.N {
					if n != uint64(i+1) {
						t.Fatalf("%v: the message %d shares its numbers", v, i)
					}
				}
				for _, l := range o.Msg.L {
					for _, n := range l {
						if n != uint32(i+1) {
							t.Fatalf("%v: the message %d shares a list", v, i)
						}
					}
				}
			}
			spoil(v.msg.N)
			spoil(v.msg.S)
			if got, want := c.state(), c.m.state(); !got.is(want) {
				t.Fatalf("behind %v\n got: %v\nwant: %v", was, got, want)
			}
		}
	}
}

// outs are what an event is answered.
func (p *play) outs(v event) []hall.Out {
	switch v.what {
	case "open":
		p.Open(v.id)
	case "issue":
		p.Issue(v.id, uint64(v.n))
	case "draw":
		p.Draw(uint64(v.n))
	case "close":
		return p.Close(v.id)
	case "tick":
		return p.Tick(v.n)
	case "report":
		return p.Report(v.id, v.msg)
	case "request":
		return p.Request(v.id, v.msg)
	}
	return nil
}
