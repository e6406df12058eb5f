package hall

import (
	"slices"

	"tiltyard/board"
	"tiltyard/fill"
	"tiltyard/friend"
	"tiltyard/ledger"
	"tiltyard/party"
	"tiltyard/penal"
	"tiltyard/plan"
	"tiltyard/pool"
	"tiltyard/queue"
	"tiltyard/rack"
	"tiltyard/ready"
	"tiltyard/seat"
	"tiltyard/session"
	"tiltyard/timer"
)

// mostEntries is how many each ledger has.
const mostEntries = 256

// The tables of the layers below, by names under which nobody outside can lay hands on them.
type (
	sessions  = session.Table
	ratings   = rack.Rack[int]
	graph     = friend.Graph
	parties   = party.Book
	marks     = penal.Book
	screen    = board.Board
	logins    = ledger.Ledger
	waiting   = queue.Queue
	found     = rack.Rack[bout]
	checks    = ready.Room
	matches   = seat.Table
	instances = pool.Pool
	tokens    = ledger.Ledger
	deadlines = timer.Queue
)

// social is who is there and known, and what they are to one another.
type social struct {
	*sessions
	*ratings
	*graph
	*parties
	*marks
	*screen
	*logins
}

// arena is who waits for a match, who is asked whether to begin one, and who sits where.
type arena struct {
	*waiting
	*found
	*checks
	*matches
	*instances
	*tokens
	*deadlines
	lastTicket, lastMatch uint32
	// drawn is the number drawn last, made is how many tokens were made.
	drawn, made uint64
}

// The kinds of deadlines: of a check by its match, of a seat by its player.
const (
	checkDue = iota
	seatDue
)

// bout is a match that was found and has not started: its tickets, and the row that each of them will be.
type bout struct {
	mode     int
	instance uint32
	tickets  []queue.Ticket
	rows     []fill.Row
}

// newSocial is a social part in which nobody is known.
func newSocial(c plan.Config) social {
	return social{
		sessions: session.New(c.Conns, c.Idle),
		ratings:  rack.New[int](c.Players),
		graph:    friend.New(),
		parties:  party.New(c.Parties),
		marks:    penal.New(c.Players),
		screen:   board.New(),
		logins:   ledger.New(mostEntries),
	}
}

// newArena is an arena in which nobody waits.
func newArena(c plan.Config) arena {
	return arena{
		waiting:   queue.New(c),
		found:     rack.New[bout](c.Instances),
		checks:    ready.New(c.Instances),
		matches:   seat.New(c.Instances),
		instances: pool.New(c.Instances, c.Beat),
		tokens:    ledger.New(mostEntries),
		deadlines: timer.New(),
	}
}

// known tells whether a player is so.
func (s *social) known(player uint32) bool {
	_, is := s.ratings.Get(player)
	return is
}

// ratingOf is a player's rating.
func (s *social) ratingOf(player uint32) int {
	rating, _ := s.ratings.Get(player)
	return rating
}

// ratingsOf are those of some players.
func (s *social) ratingsOf(players ...uint32) []int {
	var l []int
	for _, player := range players {
		l = append(l, s.ratingOf(player))
	}
	return l
}

// online tells whether all of some players are logged in.
func (s *social) online(players ...uint32) bool {
	return !slices.ContainsFunc(players, func(player uint32) bool { return s.Conn(player) == 0 })
}

// blocked tells whether one of two blocks the other.
func (s *social) blocked(a, b uint32) bool {
	return slices.Contains(s.Links(a).Blocks, b) || slices.Contains(s.Links(b).Blocks, a)
}

// partyOf is the party of which a player is a member; without, one of nobody.
func (s *social) partyOf(player uint32) party.Party {
	p, _ := s.Party(s.parties.Of(player))
	return p
}

// live tells whether an instance is so.
func (a *arena) live(instance uint32) bool {
	x, _ := a.Instance(instance)
	return x.State == pool.Live
}

// matchOf is the match in which a player has a seat, and whether there is one.
func (a *arena) matchOf(player uint32) (seat.Match, bool) { return a.Match(a.matches.Of(player)) }

// nonce is the next token's: none that a token has which may still be spent.
func (a *arena) nonce() uint64 {
	nonce := a.drawn + a.made
	for {
		if _, taken := a.tokens.Get(nonce); nonce != 0 && !taken {
			return nonce
		}
		nonce++
	}
}

// revoke takes seats' tokens back.
func (a *arena) revoke(seats ...seat.Seat) {
	for _, s := range seats {
		a.tokens.Revoke(s.Nonce)
	}
}

// players are those of a bout, in the rows' order.
func (b bout) players() []uint32 {
	var l []uint32
	for _, row := range b.rows {
		l = append(l, row.Players...)
	}
	return l
}
