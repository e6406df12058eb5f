package hall_test

import (
	"math"
	"slices"
	"strconv"
	"strings"
	"testing"

	"tiltyard/api"
	"tiltyard/fill"
	"tiltyard/penal"
	"tiltyard/plan"
	"tiltyard/pool"
	"tiltyard/queue"
	"tiltyard/seat"
	"tiltyard/verb"
)

// P24.2: reports

func TestInstanceThatIsNotThere(t *testing.T) {
	p := begun(t)
	for _, id := range []uint32{0, 5, 16, 17, 1 << 31, math.MaxUint32} {
		for kind := range 256 {
			before := p.state()
			if got := p.told(p.Report(id, fields(kind))); got != "" {
				t.Errorf("the kind %d of %d: %s", kind, id, got)
			}
			p.unchanged(before)
		}
	}
}

func TestHello(t *testing.T) {
	p := usual(t, modes(duel), 1)
	p.quietly("tick 4")
	p.see("host 4 hello -> ")
	if x, _ := p.Instance(4); x != (pool.Instance{State: pool.Free, Last: 4}) {
		t.Errorf("%v", x)
	}
	// One that starts anew has lost its match, be it asked for, starting, live or over.
	p = begun(t, 3)
	p.quietly("3 friend-ask 1", "1 friend-accept 3", "tick 2")
	p.see("host 1 hello -> 1 over 1 3 1500; 2 over 1 3 1500; 3 presence 1 1")
	p.instance(1, pool.Free, 0)
	p.same("1 match -> 1 match-is 0 0 0 0", "host 1 result 1 1 -> host 1 refused 197 24", "host 1 hello -> ")
	if len(p.Matches()) != 0 {
		t.Errorf("the matches are %v", p.Matches())
	}
	p.see("tick 28 -> ", "tick 1 -> ")
	p = started(t)
	p.see("host 1 hello -> 1 over 1 3 1500; 2 over 1 3 1500", "tick 40 -> ")
	p = begun(t)
	p.quietly("host 1 result 1 0")
	p.see("host 1 hello -> ")
	p.instance(1, pool.Free, 0)
}

// The tokens of a match that is void are taken back, and what was waited for is waited for no more.
func TestVoid(t *testing.T) {
	for _, how := range []string{"hello", "late", "result"} {
		p := started(t)
		p.quietly("host 1 up", "host 1 come 1", "host 1 left 1", "1 token", "tick 5")
		switch how {
		case "hello":
			p.see("host 1 hello -> 1 over 1 3 1500; 2 over 1 3 1500")
		case "late":
			p = with(t, withBeat(7))
			p.enter(1, 2)
			p.quietly("host 1 hello", "1 queue 0", "2 queue 0", "tick 0", "1 accept", "2 accept", "host 1 up", "host 1 come 1", "host 1 left 1", "1 token")
			p.see("tick 6 -> ", "tick 1 -> 1 over 1 3 1500; 2 over 1 3 1500")
			p.instance(1, pool.Down, 0)
			p.quietly("host 1 hello")
		case "result":
			p.see("host 1 result 1 2 -> 1 over 1 2 1500; 2 over 1 2 1500", "host 1 freed -> ")
		}
		p.quietly("1 queue 0", "2 queue 0", "tick 0", "1 accept", "2 accept", "host 1 up")
		// The next match's tokens are 4 and 5, or, with nonces that are free again, the same as if there had been no others.
		for _, s := range p.tokens[1][:2] {
			if got := p.told(p.Report(1, verb.Make(api.KCome).With(s))); !strings.HasPrefix(got, "host 1 refused 195 ") {
				t.Errorf("%s: an old token: %s", how, got)
			}
		}
		p.see("host 1 come 1 -> host 1 joined 2 1; 1 live 2", "host 1 come 2 -> host 1 joined 2 2; 2 live 2", "host 1 beat -> ", "tick 6 -> ")
		for _, player := range []uint32{1, 2} {
			if x, _ := p.See(player); x.Mark != (penal.Mark{}) || x.Status != api.Playing {
				t.Errorf("%s: %v", how, x)
			}
		}
	}
}

// withBeat is the usual config with another beat, of duels.
func withBeat(beat int64) plan.Config {
	c := plan.Usual(duel)
	c.Beat = beat
	return c
}

// Tokens that are taken back make room: however many matches there are, the ledger is never full.
func TestTokensDoNotFill(t *testing.T) {
	p := usual(t, modes(duel), 1, 2)
	p.quietly("host 1 hello")
	for match := 1; match <= 300; match++ {
		n := strconv.Itoa(match)
		p.quietly("1 queue 0", "2 queue 0", "tick 0", "1 accept", "2 accept", "host 1 up", "1 token")
		if match%3 == 0 {
			p.see("host 1 come 1 -> host 1 joined " + n + " 1; 1 live " + n)
			p.quietly("host 1 left 1", "1 token", "1 token")
		}
		if match%2 == 0 {
			p.quietly("host 1 hello")
		} else {
			p.quietly("host 1 result "+n+" 0", "host 1 freed")
		}
	}
	p.quietly("1 queue 0", "2 queue 0", "tick 0", "1 accept", "2 accept")
	if got := parts(p.do("host 1 up")); len(got) != 2 || !strings.HasPrefix(got[0], "1 seat 301 ") {
		t.Errorf("%v", got)
	}
	p.see("host 1 come 1 -> host 1 joined 301 1; 1 live 301")
}

func TestBeatAndFreed(t *testing.T) {
	p := usual(t, modes(duel), 1, 2)
	p.same("host 1 beat -> host 1 refused 193 24", "host 1 freed -> host 1 refused 198 24", "host 1 up -> host 1 refused 194 24")
	p.quietly("host 1 hello", "tick 3")
	p.see("host 1 beat -> ")
	if x, _ := p.Instance(1); x != (pool.Instance{State: pool.Free, Last: 3}) {
		t.Errorf("%v", x)
	}
	p.same("host 1 freed -> host 1 refused 198 24", "host 1 up -> host 1 refused 194 24")
	p.quietly("1 queue 0", "2 queue 0", "tick 0")
	p.same("host 1 freed -> host 1 refused 198 24", "host 1 up -> host 1 refused 194 24")
	p.quietly("1 accept", "2 accept", "tick 2")
	p.see("host 1 beat -> ")
	if x, _ := p.Instance(1); x != (pool.Instance{State: pool.Starting, Match: 1, Last: 3}) {
		t.Errorf("%v", x)
	}
	p.same("host 1 come 1 -> host 1 refused 195 24", "host 1 freed -> host 1 refused 198 24")
	p.quietly("host 1 up")
	if x, _ := p.Instance(1); x != (pool.Instance{State: pool.Live, Match: 1, Last: 5}) {
		t.Errorf("%v", x)
	}
	p.same("host 1 up -> host 1 refused 194 24", "host 1 freed -> host 1 refused 198 24")
	p.quietly("host 1 result 1 0")
	p.instance(1, pool.Draining, 0)
	p.same("host 1 up -> host 1 refused 194 24", "host 1 come 1 -> host 1 refused 195 24", "host 1 left 1 -> host 1 refused 196 24", "host 1 result 1 0 -> host 1 refused 197 24")
	p.quietly("tick 4")
	p.see("host 1 freed -> ")
	if x, _ := p.Instance(1); x != (pool.Instance{State: pool.Free, Last: 9}) {
		t.Errorf("%v", x)
	}
}

func TestUp(t *testing.T) {
	p := started(t)
	p.quietly("tick 3", "close 2")
	p.see("host 1 up -> 1 seat 1 1 1 0 23 #1")
	p.seats(1, seat.Seat{Player: 1, Team: 1, Number: 0, State: 1, Until: 23, Nonce: 1}, seat.Seat{Player: 2, Team: 2, Number: 1, State: 1, Until: 23, Nonce: 2})
	p.instance(1, pool.Live, 1)
	p.same("host 1 up -> host 1 refused 194 24")
}

// A seat at which nobody is waited for yet is not lost, however long the start takes.
func TestSlowStart(t *testing.T) {
	p := started(t)
	p.see("tick 29 -> ", "host 1 up -> 1 seat 1 1 1 0 49 #1; 2 seat 1 1 2 1 49 #2", "tick 19 -> ", "tick 1 -> 1 penalised 3 1 60; host 1 lost 1 1; 2 penalised 3 1 60; host 1 lost 1 2; host 1 drain 1")
}

func TestCome(t *testing.T) {
	p := started(t, 3)
	p.quietly("host 1 up", "tick 19")
	p.befriend(3, 2)
	p.see("host 1 come 2 -> host 1 joined 1 2; 2 live 1")
	p.seats(1, seat.Seat{Player: 1, Team: 1, Number: 0, State: 1, Until: 20, Nonce: 1}, seat.Seat{Player: 2, Team: 2, Number: 1, State: 2})
	p.same("host 1 come 2 -> host 1 refused 195 12")
	// Whoever is in is waited for no more, and whoever is not logged in is not told.
	p.quietly("close 1")
	p.see("host 1 come 1 -> host 1 joined 1 1", "tick 5 -> ")
	p.status(1, api.Playing)
}

func TestLeft(t *testing.T) {
	p := usual(t, modes(duel), 1, 2, 3, 4)
	p.befriend(1, 3)
	p.quietly("host 1 hello", "host 2 hello", "1 queue 0", "2 queue 0", "3 queue 0", "4 queue 0", "tick 0", "1 accept", "2 accept", "3 accept", "4 accept")
	p.same("host 1 left 1 -> host 1 refused 196 24")
	p.quietly("host 1 up", "host 2 up", "host 1 come 1", "host 2 come 3", "tick 2")
	p.same("host 1 left 2 -> host 1 refused 196 12", "host 1 left 3 -> host 1 refused 196 12", "host 2 left 1 -> host 2 refused 196 12",
		"host 1 left 0 -> host 1 refused 196 12", "host 1 left 9 -> host 1 refused 196 12", "host 1 left 4294967295 -> host 1 refused 196 12", "host 3 left 1 -> host 3 refused 196 24")
	p.see("host 1 left 1 -> 3 presence 1 0")
	p.seats(1, seat.Seat{Player: 1, Team: 1, Number: 0, State: 3, Until: 17}, seat.Seat{Player: 2, Team: 2, Number: 1, State: 1, Until: 20, Nonce: 2})
	p.same("host 1 left 1 -> host 1 refused 196 12", "host 1 come 1 -> host 1 refused 195 12")
	p.quietly("1 token")
	p.see("host 1 come 1 -> host 1 joined 1 1; 1 live 1; 3 presence 1 5")
}

func TestResult(t *testing.T) {
	p := begun(t, 3)
	p.quietly("3 friend-ask 1", "1 friend-accept 3")
	p.same("host 1 result 1 3 -> host 1 refused 197 2", "host 1 result 1 255 -> host 1 refused 197 2", "host 1 result 2 1 -> host 1 refused 197 12",
		"host 1 result 0 1 -> host 1 refused 197 12", "host 2 result 1 1 -> host 2 refused 197 24", "host 1 result 2 3 -> host 1 refused 197 12")
	p.see("host 1 result 1 1 -> 1 over 1 1 1516; 2 over 1 1 1484; 3 presence 1 1")
	p.same("host 1 result 1 1 -> host 1 refused 197 24", "1 rating 1 -> 1 rating-is 1 1516", "1 rating 2 -> 1 rating-is 2 1484")
	if _, is := p.Match(1); is {
		t.Error("the match is there still")
	}
	p.instance(1, pool.Draining, 0)
	p.see("tick 20 -> ")
}

// A result of a match that is at another instance is not its host's to tell.
func TestResultOfAnother(t *testing.T) {
	p := usual(t, modes(duel), 1, 2, 3, 4)
	p.quietly("host 1 hello", "host 2 hello", "1 queue 0", "2 queue 0", "3 queue 0", "4 queue 0", "tick 0", "1 accept", "2 accept", "3 accept", "4 accept", "host 1 up", "host 2 up")
	p.same("host 1 result 2 1 -> host 1 refused 197 13", "host 2 result 1 1 -> host 2 refused 197 13", "host 1 result 2 9 -> host 1 refused 197 13")
	// Nobody has come, so nobody counts.
	p.see("host 2 result 2 1 -> 3 over 2 1 1500; 4 over 2 1 1500")
}

// Who has not come counts for nothing, who is away does; the teams' order is the seats'.
func TestResultOfSome(t *testing.T) {
	p := usual(t, modes(pairs), 1, 2, 3, 4)
	p.quietly("host 1 hello", "1 queue 0", "2 queue 0", "3 queue 0", "4 queue 0", "tick 0", "1 accept", "2 accept", "3 accept", "4 accept", "host 1 up")
	p.quietly("host 1 come 1", "host 1 come 3", "host 1 come 4", "host 1 left 4", "close 3")
	p.see("host 1 result 1 2 -> 1 over 1 2 1484; 2 over 1 2 1500; 4 over 1 2 1508")
	if x, _ := p.See(3); x.Rating != 1508 || x.Status != api.Offline {
		t.Errorf("%v", x)
	}
}

// P24.2: a tick

func TestTickOfAnyTicks(t *testing.T) {
	p := usual(t, modes(duel))
	for _, x := range []struct{ some, want int64 }{{0, 0}, {-1, 0}, {math.MinInt64, 0}, {5, 5}, {-5, 5}, {math.MaxInt64, math.MaxInt64}, {1, math.MaxInt64}, {-1, math.MaxInt64}, {math.MaxInt64, math.MaxInt64}} {
		if p.Tick(x.some); p.Now() != x.want {
			t.Errorf("behind %d more it is %d, want %d", x.some, p.Now(), x.want)
		}
	}
}

func TestIdle(t *testing.T) {
	p := usual(t, modes(pairs), 1, 2, 3, 4)
	p.quietly("open 9", "tick 50", "3 ping 1")
	p.befriend(3, 1)
	p.befriend(3, 2)
	p.befriend(3, 4)
	p.quietly("tick 10", "4 ping 1", "2 ping 1", "tick 10", "1 ping 1", "1 invite 4", "4 join 1", "1 queue 0")
	// One after the other: who is gone first is not told of the ticket, the other one is, and gets its own bye at its own time.
	p.see("tick 30 -> 9 bye 9", "tick 49 -> ", "tick 1 -> 3 bye 9; 1 presence 3 0; 2 presence 3 0; 4 presence 3 0")
	p = usual(t, modes(pairs), 1, 2, 3, 4)
	p.befriend(3, 1)
	p.befriend(3, 2)
	p.party(1, 2)
	p.quietly("1 queue 0", "tick 99", "3 ping 1", "4 ping 1")
	p.see("tick 1 -> 1 bye 9; 2 unqueued 0; 2 bye 9; 3 presence 1 0; 3 presence 2 0")
	p.waits(0)
	if !slices.Equal(p.Conns(), []uint32{3, 4}) {
		t.Errorf("the connections are %v", p.Conns())
	}
}

func TestLate(t *testing.T) {
	// Of two that are late the one waits for yeses, the other one starts.
	p := usual(t, modes(duel), 1, 2, 3, 4)
	p.quietly("host 2 hello", "1 queue 0", "2 queue 0", "tick 0", "1 accept", "2 accept", "host 1 hello", "tick 25", "3 queue 0", "4 queue 0", "tick 0")
	p.see("tick 4 -> ", "tick 1 -> 3 check-over 2 3; 4 check-over 2 3; 3 queued 0; 4 queued 0; 1 over 1 3 1500; 2 over 1 3 1500")
	p.instance(1, pool.Down, 0)
	p.instance(2, pool.Down, 0)
	for _, player := range []uint32{1, 2, 3, 4} {
		if x, _ := p.See(player); x.Mark != (penal.Mark{}) || x.Check != 0 || x.Match != 0 {
			t.Errorf("%v", x)
		}
	}
	// And they are found again as soon as there is another one, were it at the same tick.
	p.see("tick 0 -> ", "host 3 hello -> ", "tick 0 -> 3 check 3 40; 4 check 3 40")
	p = usual(t, modes(duel), 1, 2)
	p.quietly("host 1 hello", "1 queue 0", "2 queue 0", "tick 25", "host 2 hello")
	p.see("tick 5 -> 1 check-over 1 3; 2 check-over 1 3; 1 queued 0; 2 queued 0; 1 check 2 40; 2 check 2 40")
	p.instance(2, pool.Held, 2)
}

// What is due comes by its time, and of one time by when that was set, whatever it is.
func TestDue(t *testing.T) {
	c := plan.Usual(duel)
	c.Ready, c.TokenLife, c.Grace, c.Beat = 10, 10, 10, 1000
	set := func() *play {
		p := with(t, c)
		p.enter(1, 2, 3, 4, 5, 6)
		p.quietly("host 1 hello", "host 2 hello", "1 queue 0", "2 queue 0", "tick 0", "1 accept", "2 accept")
		return p
	}
	// The check is set ahead of the seats.
	p := set()
	p.quietly("3 queue 0", "4 queue 0", "tick 0", "host 1 up")
	p.see("tick 10 -> 3 check-over 2 2; 4 check-over 2 2; 3 penalised 2 1 60; 4 penalised 2 1 60; 3 unqueued 0; 4 unqueued 0; " +
		"1 penalised 3 1 60; host 1 lost 1 1; 2 penalised 3 1 60; host 1 lost 1 2; host 1 drain 1")
	// And behind them.
	p = set()
	p.quietly("host 1 up", "3 queue 0", "4 queue 0", "tick 0", "3 accept")
	p.see("tick 10 -> 1 penalised 3 1 60; host 1 lost 1 1; 2 penalised 3 1 60; host 1 lost 1 2; host 1 drain 1; " +
		"3 check-over 2 2; 4 check-over 2 2; 4 penalised 2 1 60; 3 queued 0; 4 unqueued 0")
	// The earlier one counts ahead of what was set first; who left last is due last.
	p = set()
	p.quietly("host 1 up", "host 1 come 1", "host 1 come 2", "tick 1", "host 1 left 2", "tick 0", "host 1 left 1", "tick 1", "3 queue 0", "4 queue 0", "tick 0")
	p.see("tick 20 -> 2 penalised 4 1 60; host 1 lost 1 2; 1 penalised 4 1 60; host 1 lost 1 1; host 1 drain 1; " +
		"3 check-over 2 2; 4 check-over 2 2; 3 penalised 2 1 60; 4 penalised 2 1 60; 3 unqueued 0; 4 unqueued 0")
	// A token of one who is away does not set anew until when.
	p = set()
	p.quietly("host 1 up", "host 1 come 1", "host 1 come 2", "host 1 left 2", "host 1 left 1", "tick 1", "2 token")
	p.see("tick 9 -> 2 penalised 4 1 60; host 1 lost 1 2; 1 penalised 4 1 60; host 1 lost 1 1; host 1 drain 1")
}

// A seat that is lost is so just till then, and once.
func TestLost(t *testing.T) {
	p := begun(t, 3)
	p.befriend(3, 1)
	p.quietly("host 1 left 1", "1 token", "tick 14")
	p.see("tick 1 -> 1 penalised 4 1 60; host 1 lost 1 1; 3 presence 1 1", "host 1 come 1 -> host 1 refused 195 12")
	p.same("host 1 left 1 -> host 1 refused 196 12", "1 match -> 1 match-is 0 0 0 0", "1 token -> 1 error 21 24", "1 queue 0 -> 1 error 17 23")
	p.seats(1, seat.Seat{Player: 2, Team: 2, Number: 1, State: 2})
	p.instance(1, pool.Live, 1)
	p.quietly("host 1 left 2", "host 1 beat", "close 2")
	p.see("tick 14 -> ", "tick 1 -> host 1 lost 1 2; host 1 drain 1", "tick 1 -> ")
	p.instance(1, pool.Draining, 0)
	if x, _ := p.See(2); x.Mark != (penal.Mark{Level: 1, Since: 30, Until: 90}) || x.Status != api.Offline || len(p.Matches()) != 0 {
		t.Errorf("%v", x)
	}
	// The ladder goes up, and in time down again.
	p = begun(t)
	p.quietly("host 1 left 1", "tick 15", "host 1 result 1 0", "host 1 freed", "tick 60", "1 queue 0", "2 queue 0", "host 1 hello", "tick 1")
	p.see("1 decline -> 1 ok 20; 1 check-over 2 1; 2 check-over 2 1; 1 penalised 1 2 300; 1 unqueued 0; 2 queued 0", "1 penalty -> 1 penalty-is 2 300")
	p.quietly("tick 10000", "open 1")
	p.enter(4)
	if x, _ := p.See(1); x.Mark != (penal.Mark{Level: 1, Since: 10076, Until: 376}) {
		t.Errorf("%v", x)
	}
	p.quietly("tick 10000")
	if x, _ := p.See(1); x.Mark != (penal.Mark{}) {
		t.Errorf("%v", x)
	}
}

// P24.2: free seats are filled

func TestFill(t *testing.T) {
	c := plan.Usual(pairs)
	c.Idle = 1000
	p := with(t, c)
	p.enter(1, 2, 3, 4, 5, 6, 7, 8)
	p.quietly("host 1 hello", "1 queue 0", "2 queue 0", "3 queue 0", "4 queue 0", "tick 0", "1 accept", "2 accept", "3 accept", "4 accept", "host 1 up",
		"host 1 come 1", "host 1 come 2", "host 1 come 3", "host 1 come 4", "host 1 left 1", "host 1 left 4", "host 1 beat")
	p.party(5, 6)
	p.quietly("tick 14", "5 queue 0", "host 1 beat")
	// Nobody sits down where somebody is only away; two do not sit down where one seat is free.
	p.see("tick 1 -> 1 penalised 4 1 60; host 1 lost 1 1; 4 penalised 4 1 60; host 1 lost 1 4", "7 queue 0 -> 7 ok 17; 7 queued 0")
	p.quietly("tick 5", "host 1 beat", "8 queue 0", "5 cancel", "6 leave", "5 queue 0")
	rows := []fill.Row{
		{Team: 1, Players: []uint32{2}, Rating: 1500, Window: 100},
		{Team: 2, Players: []uint32{3}, Rating: 1500, Window: 100},
		{Team: 1, Players: []uint32{7}, Rating: 1500, Window: 100},
	}
	if m, _ := p.Match(1); !slices.EqualFunc(m.Rows, rows, sameRow) {
		t.Errorf("%v", m.Rows)
	}
	p.see("tick 5 -> 8 seat 1 1 2 3 45 #5; host 1 filled 1 2 [8]")
	rows = append(rows, fill.Row{Team: 2, Players: []uint32{8}, Rating: 1500, Window: 100})
	if m, _ := p.Match(1); !slices.EqualFunc(m.Rows, rows, sameRow) {
		t.Errorf("%v", m.Rows)
	}
	p.waits(0, queue.Ticket{Id: 8, Players: []uint32{5}, Rating: 1500, Since: 20})
	p.status(8, api.Reserved)
}
