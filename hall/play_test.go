package hall_test

import (
	"math"
	"slices"
	"testing"

	"tiltyard/api"
	"tiltyard/fill"
	"tiltyard/pass"
	"tiltyard/penal"
	"tiltyard/plan"
	"tiltyard/pool"
	"tiltyard/queue"
	"tiltyard/seat"
	"tiltyard/verb"
)

// sameTicket tells whether two tickets are the same.
func sameTicket(a, b queue.Ticket) bool {
	return a.Id == b.Id && a.Mode == b.Mode && slices.Equal(a.Players, b.Players) && a.Rating == b.Rating && a.Since == b.Since
}

// waits fails unless just these tickets stand in a mode.
func (p *play) waits(mode int, want ...queue.Ticket) {
	p.Helper()
	if got := p.Queue(mode); !slices.EqualFunc(got, want, sameTicket) {
		p.Errorf("in the mode %d wait %v, want %v", mode, got, want)
	}
}

// instance fails unless an instance is in a state, and has a match.
func (p *play) instance(id uint32, state int, match uint32) {
	p.Helper()
	if x, _ := p.Instance(id); x.State != state || x.Match != match {
		p.Errorf("the instance %d is %v, want the state %d and the match %d", id, x, state, match)
	}
}

// seats fails unless a match has just these seats.
func (p *play) seats(match uint32, want ...seat.Seat) {
	p.Helper()
	m, _ := p.Match(match)
	if !slices.Equal(m.Seats, want) {
		p.Errorf("the match %d has the seats %v, want %v", match, m.Seats, want)
	}
}

// begun is a play of duels, in which 1 and 2 are in the match 1 at the instance 1, which is live, and have come.
func begun(t *testing.T, players ...uint32) *play {
	t.Helper()
	p := started(t, players...)
	p.quietly("host 1 up", "host 1 come 1", "host 1 come 2")
	return p
}

// started is the same one as far as start.
func started(t *testing.T, players ...uint32) *play {
	t.Helper()
	p := usual(t, modes(duel), append(players, 1, 2)...)
	p.quietly("host 1 hello", "1 queue 0", "2 queue 0", "tick 0", "1 accept", "2 accept")
	return p
}

// P24.2: queue, cancel

func TestQueue(t *testing.T) {
	p := usual(t, modes(duel, pairs), 1, 2, 3, 4, 5)
	p.same("1 queue 2 -> 1 error 17 20", "1 queue 255 -> 1 error 17 20")
	p.see("tick 3 -> ", "1 queue 1 -> 1 ok 17; 1 queued 1")
	p.waits(1, queue.Ticket{Id: 1, Mode: 1, Players: []uint32{1}, Rating: 1500, Since: 3})
	p.same("1 queue 1 -> 1 error 17 19", "1 queue 0 -> 1 error 17 19", "1 queue 2 -> 1 error 17 20")
	p.party(2, 3)
	p.same("3 queue 1 -> 3 error 17 18", "3 queue 2 -> 3 error 17 20", "2 queue 0 -> 2 error 17 21", "3 queue 0 -> 3 error 17 18")
	p.see("2 queue 1 -> 2 ok 17; 2 queued 1; 3 queued 1")
	p.waits(0)
	p.waits(1, queue.Ticket{Id: 1, Mode: 1, Players: []uint32{1}, Rating: 1500, Since: 3}, queue.Ticket{Id: 2, Mode: 1, Players: []uint32{2, 3}, Rating: 1500, Since: 3})
	// A party of one alone, who leads it, and the mode 0.
	p.quietly("4 invite 5")
	p.see("4 queue 0 -> 4 ok 17; 4 queued 0", "5 join 1 -> 5 error 11 12", "5 join 2 -> 5 ok 11; 4 party-now 2 4 [4 5]; 5 party-now 2 4 [4 5]")
	p.waits(0, queue.Ticket{Id: 3, Mode: 0, Players: []uint32{4}, Rating: 1500, Since: 3})
}

// Of the first of them of whom anything is in the way what is named first counts.
func TestQueueOfMembers(t *testing.T) {
	p := usual(t, modes(duel, four), 1, 2, 3, 4, 9)
	p.party(1, 2, 3)
	// 3 is banned, and 2 is not idle, as 2 waits alone.
	p.quietly("host 1 hello", "3 queue 0", "9 queue 0")
	p.same("3 queue 0 -> 3 error 17 18")
	p.party(4, 3)
	if x, _ := p.See(3); x.Party != 1 || x.Status != api.Idle {
		t.Fatalf("%v", x)
	}
	p.quietly("1 kick 3", "3 queue 0", "tick 1", "3 decline", "9 cancel", "1 invite 3", "3 join 1")
	p.same("1 queue 1 -> 1 error 17 23")
	p.quietly("close 2")
	p.same("1 queue 1 -> 1 error 17 22")
	p.enter(2)
	p.same("1 queue 1 -> 1 error 17 23")
	p.quietly("close 3")
	p.same("1 queue 1 -> 1 error 17 22")
	p.enter(3)
	p.quietly("1 lead 3", "3 lead 1")
	// The size counts ahead of all that is said of the members.
	p.same("1 queue 0 -> 1 error 17 21")
	p.see("tick 59 -> ")
	p.same("1 queue 1 -> 1 error 17 23")
	p.quietly("1 ping 1", "2 ping 1", "3 ping 1")
	p.see("tick 1 -> ", "1 queue 1 -> 1 ok 17; 1 queued 1; 2 queued 1; 3 queued 1")
}

// A member who is offline and one who is not idle: who comes first in the party counts, and offline ahead of not idle.
func TestQueueFirstMember(t *testing.T) {
	p := usual(t, modes(duel, four), 1, 2, 3, 5, 6)
	p.quietly("host 1 hello", "2 queue 0", "5 queue 0", "1 invite 2", "2 join 1", "1 invite 3", "3 join 1")
	p.same("1 queue 1 -> 1 error 17 19")
	p.quietly("close 3")
	p.same("1 queue 1 -> 1 error 17 19")
	p.quietly("tick 1")
	p.same("1 queue 1 -> 1 error 17 19")
	p.quietly("close 2")
	p.same("1 queue 1 -> 1 error 17 22")
	p.quietly("5 decline")
	p.same("1 queue 1 -> 1 error 17 22")
	p.enter(2)
	p.quietly("1 kick 3")
	p.see("1 queue 1 -> 1 ok 17; 1 queued 1; 2 queued 1")
	// In a check, in a seat and away nobody is idle.
	p = usual(t, modes(duel), 1, 2)
	p.quietly("host 1 hello", "1 queue 0", "2 queue 0", "tick 1")
	p.same("1 queue 0 -> 1 error 17 19")
	p.quietly("1 accept", "2 accept")
	p.same("1 queue 0 -> 1 error 17 19")
	p.quietly("host 1 up", "host 1 come 1")
	p.same("1 queue 0 -> 1 error 17 19")
	p.quietly("host 1 left 1")
	p.same("1 queue 0 -> 1 error 17 19")
}

func TestQueueIsFull(t *testing.T) {
	c := plan.Usual(duel, pairs)
	c.Conns, c.Players = 64, 64
	p := with(t, c)
	for player := range uint32(18) {
		p.enter(player + 1)
	}
	for player := uint32(1); player <= 16; player++ {
		p.quietly(line(player, "queue 0"))
	}
	// What is refused is not made, so that the numbers go on without it.
	p.same("17 queue 0 -> 17 error 17 10", "17 queue 0 -> 17 error 17 10")
	p.see("17 queue 1 -> 17 ok 17; 17 queued 1")
	p.waits(1, queue.Ticket{Id: 17, Mode: 1, Players: []uint32{17}, Rating: 1500})
	p.quietly("16 cancel")
	p.see("18 queue 0 -> 18 ok 17; 18 queued 0")
	if x, _ := p.See(18); x.Ticket != 18 {
		t.Errorf("%v", x)
	}
}

// The rating of a ticket is the mean, rounded down, of what the ratings are now.
func TestQueueRating(t *testing.T) {
	p := begun(t, 3)
	p.quietly("host 1 result 1 1")
	p.quietly("1 invite 3")
	p.see("1 queue 0 -> 1 ok 17; 1 queued 0", "2 queue 0 -> 2 ok 17; 2 queued 0")
	p.waits(0, queue.Ticket{Id: 3, Players: []uint32{1}, Rating: 1516}, queue.Ticket{Id: 4, Players: []uint32{2}, Rating: 1484})
	q := usual(t, modes(duel, pairs), 1, 2, 3)
	q.quietly("host 1 hello", "1 queue 0", "2 queue 0", "tick 0", "1 accept", "2 accept", "host 1 up", "host 1 come 1", "host 1 come 2", "host 1 result 1 1")
	q.party(3, 2)
	q.quietly("3 queue 1")
	q.waits(1, queue.Ticket{Id: 3, Mode: 1, Players: []uint32{3, 2}, Rating: 1492})
}

func TestCancel(t *testing.T) {
	p := usual(t, modes(pairs), 1, 2, 3)
	p.befriend(1, 3)
	p.same("1 cancel -> 1 error 18 24")
	p.party(1, 2)
	p.quietly("1 queue 0")
	p.same("3 cancel -> 3 error 18 24")
	// Each of them may, be it the leader or not.
	p.see("2 cancel -> 2 ok 18; 1 unqueued 0; 2 unqueued 0; 3 presence 1 1")
	p.waits(0)
	p.see("1 queue 0 -> 1 ok 17; 1 queued 0; 2 queued 0; 3 presence 1 2", "1 leave -> 1 ok 13; 2 party-over 1", "1 cancel -> 1 ok 18; 1 unqueued 0; 2 unqueued 0; 3 presence 1 1")
	p.same("1 cancel -> 1 error 18 24", "2 cancel -> 2 error 18 24")
	// In a check one is in no ticket any more.
	p = usual(t, modes(duel), 1, 2)
	p.quietly("host 1 hello", "1 queue 0", "2 queue 0", "tick 1")
	p.same("1 cancel -> 1 error 18 24")
}

// P24.2: a match is found

func TestFound(t *testing.T) {
	p := usual(t, modes(duel, pairs), 1, 2, 3, 4, 5)
	p.quietly("host 3 hello", "host 2 hello", "tick 4")
	p.party(4, 5)
	p.quietly("1 queue 1", "4 queue 1", "tick 25", "2 queue 1", "3 queue 0")
	// Nobody is found but at a tick, were it of no time.
	p.see("tick 0 -> 1 check 1 39; 2 check 1 39; 4 check 1 39; 5 check 1 39")
	p.waits(1)
	p.waits(0, queue.Ticket{Id: 4, Mode: 0, Players: []uint32{3}, Rating: 1500, Since: 29})
	p.instance(2, pool.Held, 1)
	p.instance(3, pool.Free, 0)
	for _, player := range []uint32{1, 2, 4, 5} {
		if x, _ := p.See(player); x.Check != 1 || x.Ticket != 0 || x.Match != 0 || x.Status != api.Checking {
			t.Errorf("%v", x)
		}
	}
	if _, is := p.Match(1); is || len(p.Matches()) != 0 {
		t.Error("it is there ahead of its start")
	}
	p.see("4 accept -> 4 ok 19", "1 accept -> 1 ok 19", "5 accept -> 5 ok 19",
		"2 accept -> 2 ok 19; 1 check-over 1 0; 2 check-over 1 0; 4 check-over 1 0; 5 check-over 1 0; host 2 start 1 1 [1 2] [4 5]")
	m, _ := p.Match(1)
	rows := []fill.Row{
		{Team: 1, Players: []uint32{1}, Rating: 1500, Window: 200},
		{Team: 1, Players: []uint32{2}, Rating: 1500, Window: 100},
		{Team: 2, Players: []uint32{4, 5}, Rating: 1500, Window: 200},
	}
	if m.Id != 1 || m.Mode != 1 || m.Instance != 2 || !slices.EqualFunc(m.Rows, rows, sameRow) {
		t.Errorf("the match is %v", m)
	}
	p.seats(1, seat.Seat{Player: 1, Team: 1, Number: 0, State: 1}, seat.Seat{Player: 2, Team: 1, Number: 1, State: 1},
		seat.Seat{Player: 4, Team: 2, Number: 2, State: 1}, seat.Seat{Player: 5, Team: 2, Number: 3, State: 1})
	if !slices.Equal(p.Matches(), []uint32{1}) {
		t.Errorf("the matches are %v", p.Matches())
	}
	p.instance(2, pool.Starting, 1)
}

// sameRow tells whether two rows are the same.
func sameRow(a, b fill.Row) bool {
	return a.Team == b.Team && slices.Equal(a.Players, b.Players) && a.Rating == b.Rating && a.Window == b.Window
}

// As many are found as instances are free, mode by mode, the oldest tickets first.
func TestFoundByModes(t *testing.T) {
	p := usual(t, modes(duel, duel), 1, 2, 3, 4, 5, 6, 7, 8)
	p.quietly("1 queue 1", "2 queue 1", "tick 1", "3 queue 0", "4 queue 0", "5 queue 0", "6 queue 0", "7 queue 0")
	p.see("tick 1 -> ", "host 4 hello -> ", "tick 1 -> 3 check 1 13; 4 check 1 13", "tick 1 -> ")
	p.quietly("host 1 hello", "host 2 hello", "host 3 hello")
	p.see("tick 1 -> 5 check 2 15; 6 check 2 15; 1 check 3 15; 2 check 3 15")
	p.instance(1, pool.Held, 2)
	p.instance(2, pool.Held, 3)
	p.instance(3, pool.Free, 0)
	p.instance(4, pool.Held, 1)
	p.see("8 queue 1 -> 8 ok 17; 8 queued 1", "tick 1 -> ")
	p.waits(0, queue.Ticket{Id: 7, Players: []uint32{7}, Rating: 1500, Since: 1})
	p.waits(1, queue.Ticket{Id: 8, Mode: 1, Players: []uint32{8}, Rating: 1500, Since: 5})
}

// The till of a check stays at the last moment.
func TestCheckAtTheLastMoment(t *testing.T) {
	p := usual(t, modes(duel))
	p.Tick(math.MaxInt64 - 5)
	p.enter(1, 2)
	p.quietly("host 1 hello", "1 queue 0", "2 queue 0")
	p.see("tick 0 -> 1 check 1 9223372036854775807; 2 check 1 9223372036854775807", "tick 4 -> ")
	// At the last moment all is idle, and late, ahead of what is due.
	p.see("tick 1 -> 1 bye 9; 2 bye 9", "tick 1 -> ")
	for _, player := range []uint32{1, 2} {
		if x, _ := p.See(player); x.Mark != (penal.Mark{}) || x.Status != api.Offline {
			t.Errorf("%v", x)
		}
	}
	p.waits(0)
	p.instance(1, pool.Down, 0)
}

// P24.2: accept, decline

func TestAccept(t *testing.T) {
	p := usual(t, modes(duel), 1, 2)
	p.same("1 accept -> 1 error 19 24")
	p.quietly("1 queue 0", "2 queue 0")
	p.same("1 accept -> 1 error 19 24")
	p.quietly("host 1 hello", "tick 1")
	p.see("1 accept -> 1 ok 19")
	p.same("1 accept -> 1 error 19 11")
	// Who said yes and is gone is in the match all the same.
	p.see("close 1 -> ", "2 accept -> 2 ok 19; 2 check-over 1 0; host 1 start 1 0 [1] [2]")
	p.same("2 accept -> 2 error 19 24", "2 decline -> 2 error 20 24")
	p.status(1, api.Reserved)
	// Its deadline is none any more.
	p.see("tick 10 -> ")
}

func TestDecline(t *testing.T) {
	p := usual(t, modes(duel), 1, 2, 3)
	p.befriend(1, 3)
	p.befriend(2, 3)
	p.same("1 decline -> 1 error 20 24")
	p.quietly("host 1 hello", "1 queue 0", "tick 3", "2 queue 0")
	p.same("2 decline -> 2 error 20 24")
	p.quietly("tick 1", "2 accept")
	// Who said yes may decline still; the other one waits again as it was.
	p.see("2 decline -> 2 ok 20; 1 check-over 1 1; 2 check-over 1 1; 2 penalised 1 1 60; 1 queued 0; 2 unqueued 0; 3 presence 2 1")
	p.instance(1, pool.Free, 0)
	p.waits(0, queue.Ticket{Id: 1, Players: []uint32{1}, Rating: 1500})
	p.same("1 decline -> 1 error 20 24", "2 decline -> 2 error 20 24", "2 queue 0 -> 2 error 17 23")
	if x, _ := p.See(2); x.Mark != (penal.Mark{Level: 1, Since: 4, Until: 64}) {
		t.Errorf("%v", x)
	}
	p.see("3 queue 0 -> 3 ok 17; 3 queued 0; 1 presence 3 2; 2 presence 3 2", "tick 9 -> 1 check 2 23; 3 check 2 23", "tick 9 -> ")
}

// Ticket by ticket, in the rows' order: who waits again, and who does not.
func TestFails(t *testing.T) {
	setUp := func() *play {
		p := usual(t, modes(four), 1, 2, 3, 4, 5, 6, 7, 8)
		p.party(1, 2)
		p.party(3, 4)
		p.quietly("host 1 hello", "5 queue 0", "1 queue 0", "7 queue 0", "3 queue 0", "6 queue 0", "8 queue 0")
		p.see("tick 1 -> 5 check 1 11; 1 check 1 11; 2 check 1 11; 7 check 1 11; 3 check 1 11; 4 check 1 11; 6 check 1 11; 8 check 1 11")
		return p
	}
	p := setUp()
	p.see("4 decline -> 4 ok 20; 5 check-over 1 1; 1 check-over 1 1; 2 check-over 1 1; 7 check-over 1 1; 3 check-over 1 1; 4 check-over 1 1; 6 check-over 1 1; 8 check-over 1 1; " +
		"4 penalised 1 1 60; 5 queued 0; 1 queued 0; 2 queued 0; 7 queued 0; 3 unqueued 0; 4 unqueued 0; 6 queued 0; 8 queued 0")
	// Who is gone keeps those who came along from waiting again.
	p = setUp()
	p.see("close 2 -> ", "close 7 -> ", "5 decline -> 5 ok 20; 5 check-over 1 1; 1 check-over 1 1; 3 check-over 1 1; 4 check-over 1 1; 6 check-over 1 1; 8 check-over 1 1; "+
		"5 penalised 1 1 60; 5 unqueued 0; 1 unqueued 0; 3 queued 0; 4 queued 0; 6 queued 0; 8 queued 0")
	p.waits(0, queue.Ticket{Id: 4, Players: []uint32{3, 4}, Rating: 1500}, queue.Ticket{Id: 5, Players: []uint32{6}, Rating: 1500}, queue.Ticket{Id: 6, Players: []uint32{8}, Rating: 1500})
	// Those who did not say yes in time are penalised in the players' order, be they there or not.
	p = setUp()
	p.quietly("8 accept", "1 accept", "4 accept", "6 accept", "2 accept", "close 7")
	p.see("tick 9 -> ", "tick 1 -> 5 check-over 1 2; 1 check-over 1 2; 2 check-over 1 2; 3 check-over 1 2; 4 check-over 1 2; 6 check-over 1 2; 8 check-over 1 2; "+
		"5 penalised 2 1 60; 3 penalised 2 1 60; 5 unqueued 0; 1 queued 0; 2 queued 0; 3 unqueued 0; 4 unqueued 0; 6 queued 0; 8 queued 0")
	for _, player := range []uint32{3, 5, 7} {
		if x, _ := p.See(player); x.Mark != (penal.Mark{Level: 1, Since: 11, Until: 71}) {
			t.Errorf("%v", x)
		}
	}
	for _, player := range []uint32{1, 2, 4, 6, 8} {
		if x, _ := p.See(player); x.Mark != (penal.Mark{}) {
			t.Errorf("%v", x)
		}
	}
	p.instance(1, pool.Free, 0)
	// And all of it is the host's doing: nobody is penalised.
	p = setUp()
	p.quietly("1 accept")
	p.see("host 1 hello -> 5 check-over 1 3; 1 check-over 1 3; 2 check-over 1 3; 7 check-over 1 3; 3 check-over 1 3; 4 check-over 1 3; 6 check-over 1 3; 8 check-over 1 3; " +
		"5 queued 0; 1 queued 0; 2 queued 0; 7 queued 0; 3 queued 0; 4 queued 0; 6 queued 0; 8 queued 0")
	p.instance(1, pool.Free, 0)
	if got := len(p.Queue(0)); got != 6 {
		t.Errorf("%d tickets", got)
	}
	p.see("tick 0 -> 5 check 2 11; 1 check 2 11; 2 check 2 11; 7 check 2 11; 3 check 2 11; 4 check 2 11; 6 check 2 11; 8 check 2 11")
}

// A ticket for which there is no room any more waits no more.
func TestFailsWithoutRoom(t *testing.T) {
	c := plan.Usual(duel)
	c.Conns, c.Players, c.Idle = 64, 64, 1000
	p := with(t, c)
	for player := range uint32(20) {
		p.enter(player + 1)
	}
	p.quietly("host 1 hello", "1 queue 0", "2 queue 0", "tick 1")
	for player := uint32(3); player <= 17; player++ {
		p.quietly(line(player, "queue 0"))
	}
	p.quietly("host 2 beat")
	p.see("host 1 hello -> 1 check-over 1 3; 2 check-over 1 3; 1 queued 0; 2 unqueued 0")
	if l := p.Queue(0); len(l) != 16 || l[0].Id != 1 {
		t.Errorf("%v", l)
	}
	p.status(2, api.Idle)
}

// P24.2: token

func TestToken(t *testing.T) {
	p := started(t, 3)
	p.same("3 token -> 3 error 21 24", "1 token -> 1 error 21 24")
	p.see("host 1 up -> 1 seat 1 1 1 0 20 #1; 2 seat 1 1 2 1 20 #2", "tick 3 -> ")
	p.see("1 token -> 1 seat 1 1 1 0 20 #3")
	p.seats(1, seat.Seat{Player: 1, Team: 1, Number: 0, State: 1, Until: 20, Nonce: 3}, seat.Seat{Player: 2, Team: 2, Number: 1, State: 1, Until: 20, Nonce: 2})
	// The old one is taken back.
	if got := p.told(p.Report(1, verb.Make(api.KCome).With(p.tokens[1][0]))); got != "host 1 refused 195 12" {
		t.Error(got)
	}
	p.see("host 1 come 1 -> host 1 joined 1 1; 1 live 1")
	p.same("1 token -> 1 error 21 24")
	p.see("host 1 left 1 -> ", "1 token -> 1 seat 1 1 1 0 18 #3", "1 token -> 1 seat 1 1 1 0 18 #4")
	p.seats(1, seat.Seat{Player: 1, Team: 1, Number: 0, State: 3, Until: 18, Nonce: 4}, seat.Seat{Player: 2, Team: 2, Number: 1, State: 1, Until: 20, Nonce: 2})
	if got := p.told(p.Report(1, verb.Make(api.KCome).With(p.tokens[1][2]))); got != "host 1 refused 195 12" {
		t.Error(got)
	}
	p.see("host 1 come 1 -> host 1 joined 1 1; 1 live 1")
	p.seats(1, seat.Seat{Player: 1, Team: 1, Number: 0, State: 2}, seat.Seat{Player: 2, Team: 2, Number: 1, State: 1, Until: 20, Nonce: 2})
}

// Who comes at another connection asks there for the token.
func TestTokenAfterLogin(t *testing.T) {
	p := started(t)
	p.quietly("close 1")
	p.see("host 1 up -> 2 seat 1 1 2 1 20 #2")
	p.enter(1)
	p.see("1 token -> 1 seat 1 1 1 0 20 #3", "host 1 come 1 -> host 1 joined 1 1; 1 live 1")
}

// The request does not set anew since when the seat is waited for.
func TestTokenKeepsItsPlace(t *testing.T) {
	p := started(t)
	p.quietly("host 1 up", "tick 3", "1 token")
	p.see("tick 17 -> 1 penalised 3 1 60; host 1 lost 1 1; 2 penalised 3 1 60; host 1 lost 1 2; host 1 drain 1")
}

func TestNonces(t *testing.T) {
	for _, x := range []struct {
		drawn              uint64
		first, then, again string
	}{
		{0, "1", "2", "3"},
		{1, "1", "2", "3"},
		{70, "70", "71", "72"},
		{math.MaxUint64, "18446744073709551615", "1", "2"},
		{math.MaxUint64 - 1, "18446744073709551614", "18446744073709551615", "1"},
	} {
		p := started(t)
		p.Draw(x.drawn)
		p.see("host 1 up -> 1 seat 1 1 1 0 20 #"+x.first+"; 2 seat 1 1 2 1 20 #"+x.then, "1 token -> 1 seat 1 1 1 0 20 #"+x.again)
	}
	// Of those that stand in the ledger none is given once more; of those that do not any is.
	p := started(t)
	p.Draw(5)
	p.see("host 1 up -> 1 seat 1 1 1 0 20 #5; 2 seat 1 1 2 1 20 #6")
	p.Draw(3)
	p.see("1 token -> 1 seat 1 1 1 0 20 #5", "1 token -> 1 seat 1 1 1 0 20 #7")
	p.Draw(2)
	p.see("2 token -> 2 seat 1 1 2 1 20 #6", "2 token -> 2 seat 1 1 2 1 20 #8")
	p.Draw(math.MaxUint64 - 5)
	p.see("1 token -> 1 seat 1 1 1 0 20 #1", "host 1 come 2 -> host 1 joined 1 2; 2 live 1", "host 1 come 1 -> host 1 joined 1 1; 1 live 1")
}

// A login ticket's nonce is none of a token's.
func TestNoncesOfTickets(t *testing.T) {
	p := started(t)
	p.Issue(3, 1)
	p.see("host 1 up -> 1 seat 1 1 1 0 20 #1; 2 seat 1 1 2 1 20 #2")
	if _, e := p.Issue(3, 2); e != api.OK {
		t.Errorf("error %d", e)
	}
}

// P8: a token lets its player in once, and nobody else; whoever can sign by the key can't change what was issued.
func TestTokensThatAreWrong(t *testing.T) {
	p := usual(t, modes(duel), 1, 2, 3, 4)
	p.quietly("host 1 hello", "host 2 hello", "1 queue 0", "2 queue 0", "tick 0", "1 accept", "2 accept", "3 queue 0", "4 queue 0", "tick 0", "3 accept", "4 accept")
	come := func(to uint32, x pass.Token) verb.Msg { return verb.Make(api.KCome).With(x.Seal(key)) }
	right := pass.Token{Player: 1, Match: 1, Instance: 1, Seat: 0, Stamp: pass.Stamp{Expiry: 20, Nonce: 1}}
	if got := p.told(p.Report(1, come(1, right))); got != "host 1 refused 195 24" {
		t.Errorf("ahead of up: %s", got)
	}
	p.quietly("host 1 up", "host 2 up")
	for _, x := range []struct {
		what  string
		at    uint32
		spoil func(x *pass.Token)
		want  api.Errno
	}{
		{"at another instance", 2, func(x *pass.Token) {}, api.ErrWrong},
		{"for another instance", 1, func(x *pass.Token) { x.Instance = 2 }, api.ErrWrong},
		{"for no instance", 1, func(x *pass.Token) { x.Instance = 0 }, api.ErrWrong},
		{"for another match", 1, func(x *pass.Token) { x.Match = 2 }, api.ErrWrong},
		{"for no match", 1, func(x *pass.Token) { x.Match = 0 }, api.ErrWrong},
		{"another player's nonce", 1, func(x *pass.Token) { x.Player = 2 }, api.ErrWrong},
		{"another match's nonce", 2, func(x *pass.Token) { x.Instance, x.Match = 2, 2 }, api.ErrWrong},
		{"a nonce that was not issued", 1, func(x *pass.Token) { x.Nonce = 9 }, api.ErrMissing},
		{"no nonce", 1, func(x *pass.Token) { x.Nonce = 0 }, api.ErrMissing},
	} {
		before := p.state()
		token := right
		x.spoil(&token)
		if got := p.told(p.Report(x.at, come(x.at, token))); got != line(x.at, "refused 195", uint32(x.want)) && got != "host "+line(x.at, "refused 195", uint32(x.want)) {
			t.Errorf("%s: %s", x.what, got)
		}
		p.unchanged(before)
	}
	for what, s := range map[string]string{"": "", "a ticket": p.ticket(1), "too long": right.Seal(key) + "a"} {
		if got := p.told(p.Report(1, verb.Make(api.KCome).With(s))); got != "host 1 refused 195 7" {
			t.Errorf("%s: %s", what, got)
		}
	}
	bad := []byte(right.Seal(key))
	bad[27] ^= 1
	if got := p.told(p.Report(1, verb.Make(api.KCome).With(string(bad)))); got != "host 1 refused 195 8" {
		t.Errorf("another one's tag: %s", got)
	}
	// Its seat and expiry are asked for by nobody: the nonce tells.
	odd := right
	odd.Seat, odd.Expiry = 7, 0
	if got := p.told(p.Report(1, come(1, odd))); got != "host 1 joined 1 1; 1 live 1" {
		t.Error(got)
	}
	p.same("host 1 come 1 -> host 1 refused 195 12")
	p.quietly("host 1 left 1")
	p.same("host 1 come 1 -> host 1 refused 195 12")
}
