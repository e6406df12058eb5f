package hall

import (
	"slices"

	"tiltyard/api"
	"tiltyard/draft"
	"tiltyard/elo"
	"tiltyard/fill"
	"tiltyard/ledger"
	"tiltyard/pass"
	"tiltyard/queue"
	"tiltyard/seat"
	"tiltyard/verb"
)

// The reasons for which a check fails or a player is penalised.
const (
	declined = 1
	silent   = 2
	noShow   = 3
	stayed   = 4
)

// void is why a check fails, and what becomes of a match, when the instance is gone.
const void = 3

func (h *Hall) queue(r request) api.Errno {
	number := int(r.N[0])
	mode, is := h.set.Mode(number)
	p := h.partyOf(r.player)
	players := p.Members
	if p.Id == 0 {
		players = []uint32{r.player}
	}
	switch {
	case !is:
		return api.ErrMode
	case p.Id != 0 && p.Leader != r.player:
		return api.ErrLeader
	case len(players) > mode.K:
		return api.ErrSize
	}
	if e := h.kept(players...); e != api.OK {
		return e
	}
	t := queue.Ticket{Id: h.lastTicket + 1, Mode: number, Players: players, Rating: elo.Mean(h.ratingsOf(players...)...), Since: h.now}
	if e := h.waiting.Put(t); e != api.OK {
		return e
	}
	h.lastTicket = t.Id
	h.ok(r)
	h.tell(verb.Make(api.KQueued, uint64(number)), players...)
	return api.OK
}

// kept is why the first of some players of whom anything is in the way is kept from the queue, or OK.
func (h *Hall) kept(players ...uint32) api.Errno {
	for _, player := range players {
		switch {
		case !h.online(player):
			return api.ErrOffline
		case h.statusOf(player) != api.Idle:
			return api.ErrBusy
		case h.Banned(player, h.now):
			return api.ErrBanned
		}
	}
	return api.OK
}

func (h *Hall) cancel(r request) api.Errno {
	if h.waiting.Of(r.player) == 0 {
		return api.ErrState
	}
	h.ok(r)
	h.unqueue(r.player)
	return api.OK
}

// unqueue drops the ticket in which a player is, if there is one, and tells its players.
func (h *Hall) unqueue(player uint32) {
	if t, is := h.waiting.Drop(h.waiting.Of(player)); is {
		h.tell(verb.Make(api.KUnqueued, uint64(t.Mode)), t.Players...)
	}
}

func (h *Hall) accept(r request) api.Errno {
	match := h.checks.Of(r.player)
	if match == 0 {
		return api.ErrState
	}
	_, over, e := h.checks.Accept(r.player)
	if e != api.OK {
		return e
	}
	h.ok(r)
	if over {
		h.starts(match)
	}
	return api.OK
}

func (h *Hall) decline(r request) api.Errno {
	match := h.checks.Of(r.player)
	if match == 0 {
		return api.ErrState
	}
	h.ok(r)
	h.fails(match, declined, r.player)
	return api.OK
}

func (h *Hall) token(r request) api.Errno {
	s, _ := h.Seat(r.player)
	m, is := h.matchOf(r.player)
	if !is || s.State == seat.In || !h.live(m.Instance) {
		return api.ErrState
	}
	h.revoke(s)
	// Till when the seat is waited for stays as it was set, and so does its place among those that are due then.
	h.grant(r.player, s.Until)
	return api.OK
}

// grant gives a player a token for the seat, till a time.
func (h *Hall) grant(player uint32, till int64) {
	m, _ := h.matchOf(player)
	s, _ := h.Seat(player)
	nonce := h.nonce()
	h.made++
	h.tokens.Issue(ledger.Entry{Nonce: nonce, Owner: player, What: m.Id, Expiry: till}, h.now)
	h.matches.Set(player, s.State, till, nonce)
	t := pass.Token{
		Player:   player,
		Match:    m.Id,
		Instance: uint16(m.Instance),
		Seat:     uint8(s.Number),
		Stamp:    pass.Stamp{Expiry: till, Nonce: nonce},
	}
	seats := verb.Make(api.KSeat, uint64(m.Id), uint64(m.Instance), uint64(s.Team), uint64(s.Number), uint64(till))
	h.tell(seats.With(t.Seal(h.key)), player)
}

// admit gives players who have just sat down their tokens.
func (h *Hall) admit(players ...uint32) {
	till := h.in(h.set.TokenLife)
	for _, player := range players {
		h.grant(player, till)
		h.deadlines.Set(seatDue, player, till)
	}
}

// pair finds a match of tickets, and asks their players.
func (h *Hall) pair(mode int, l []queue.Ticket, s draft.Split) {
	h.lastMatch++
	match, till := h.lastMatch, h.in(h.set.Ready)
	b := bout{mode: mode, instance: h.Least()}
	for side, places := range [][]int{s.A, s.B} {
		for _, place := range places {
			h.waiting.Drop(l[place].Id)
			b.tickets = append(b.tickets, l[place])
			b.rows = append(b.rows, h.row(side+1, l[place]))
		}
	}
	h.instances.Hold(b.instance, match)
	h.found.Put(match, b)
	h.checks.Open(match, till, b.players()...)
	h.deadlines.Set(checkDue, match, till)
	h.tell(verb.Make(api.KCheck, uint64(match), uint64(till)), b.players()...)
}

// row is a ticket that sits down in a team now.
func (h *Hall) row(team int, t queue.Ticket) fill.Row {
	mode, _ := h.set.Mode(t.Mode)
	return fill.Row{Team: team, Players: t.Players, Rating: t.Rating, Window: mode.Window(draft.Wait(h.now, t.Since))}
}

// checked ends the check of a match, of whose bout no more is kept then.
func (h *Hall) checked(match uint32) bout {
	b, _ := h.found.Drop(match)
	h.checks.Close(match)
	h.deadlines.Clear(checkDue, match)
	return b
}

// starts lets a match be there to which all have said yes.
func (h *Hall) starts(match uint32) {
	b := h.checked(match)
	h.matches.Make(match, b.mode, b.instance, b.rows...)
	h.instances.Start(b.instance, h.now)
	h.tell(verb.Make(api.KCheckOver, uint64(match), 0), b.players()...)
	m, _ := h.Match(match)
	h.host(b.instance, verb.Make(api.KStart, uint64(match), uint64(b.mode)).And(m.Team(1), m.Team(2)))
}

// fails ends a match that was found, by some of its players.
func (h *Hall) fails(match uint32, reason int, by ...uint32) {
	b := h.checked(match)
	// An instance that is gone, or there anew, is not held any more: then this is refused, as it is to be.
	h.instances.Let(b.instance)
	h.tell(verb.Make(api.KCheckOver, uint64(match), uint64(reason)), b.players()...)
	for _, player := range by {
		h.penalise(player, reason)
	}
	for _, t := range b.tickets {
		h.again(t, by...)
	}
}

// again lets a ticket wait as it did, unless one of its players let the others down, or is not there.
func (h *Hall) again(t queue.Ticket, by ...uint32) {
	blamed := slices.ContainsFunc(t.Players, func(player uint32) bool { return slices.Contains(by, player) })
	kind := api.KUnqueued
	if !blamed && h.online(t.Players...) && h.waiting.Put(t) == api.OK {
		kind = api.KQueued
	}
	h.tell(verb.Make(kind, uint64(t.Mode)), t.Players...)
}

// penalise hits a player's mark.
func (h *Hall) penalise(player uint32, reason int) {
	mark, _ := h.Hit(player, h.now)
	h.tell(verb.Make(api.KPenalised, uint64(reason), uint64(mark.Level), uint64(mark.Left(h.now))), player)
}

// lose takes the seat of a player who did not come, or did not come back, in time.
func (h *Hall) lose(player uint32) {
	s, _ := h.Seat(player)
	m, _ := h.matchOf(player)
	h.revoke(s)
	_, left, _ := h.matches.Lose(player)
	reason := noShow
	if s.State == seat.Away {
		reason = stayed
	}
	h.penalise(player, reason)
	h.host(m.Instance, verb.Make(api.KLost, uint64(m.Id), uint64(player)))
	if left > 0 {
		return
	}
	h.matches.End(m.Id)
	h.instances.Drain(m.Instance)
	h.host(m.Instance, verb.Make(api.KDrain, uint64(m.Id)))
}

// voids ends the match of an instance that is gone, if it had one.
func (h *Hall) voids(match uint32) {
	if _, is := h.checks.Check(match); is {
		h.fails(match, void)
		return
	}
	if m, is := h.matches.End(match); is {
		h.over(m, void)
	}
}

// over tells the players of a match that is there no more what became of it.
func (h *Hall) over(m seat.Match, result int) {
	h.revoke(m.Seats...)
	for _, s := range m.Seats {
		h.deadlines.Clear(seatDue, s.Player)
		h.tell(verb.Make(api.KOver, uint64(m.Id), uint64(result), uint64(h.ratingOf(s.Player))), s.Player)
	}
}
