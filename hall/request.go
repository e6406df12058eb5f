package hall

import (
	"slices"

	"tiltyard/api"
	"tiltyard/pass"
	"tiltyard/rack"
	"tiltyard/verb"
)

// request is a message on a connection, and who is logged in there, 0 for nobody.
type request struct {
	conn, player uint32
	verb.Msg
}

// other is the player, or the party, of whom a request is.
func (r request) other() uint32 { return uint32(r.N[0]) }

// Request takes a request.
func (h *Hall) Request(conn uint32, m verb.Msg) []Out {
	if h == nil || h.Touch(conn, h.now) != api.OK {
		return nil
	}
	r := request{conn: conn, player: h.Player(conn), Msg: m}
	if e := h.serve(r); e != api.OK {
		h.send(conn, wrong(api.KError, m.Kind, e))
	}
	return h.said()
}

// serve does what a request asks for, and replies, or tells what is wrong with it.
func (h *Hall) serve(r request) api.Errno {
	if _, e := verb.Encode(r.Msg); e != api.OK {
		return e
	}
	serves, is := h.requests[r.Kind]
	switch {
	case !is:
		return api.ErrKind
	case r.player == 0 && !slices.Contains([]int{api.KLogin, api.KPing, api.KTime}, r.Kind):
		return api.ErrLogin
	}
	return serves(r)
}

// allRequests are what serves each kind of request. Each of them finds all errors ahead of the first thing that it changes.
func (h *Hall) allRequests() map[int]func(request) api.Errno {
	return map[int]func(request) api.Errno{
		api.KLogin:        h.login,
		api.KPing:         h.ping,
		api.KFriendAsk:    h.friendAsk,
		api.KFriendAccept: h.friendAccept,
		api.KFriendRefuse: h.friendRefuse,
		api.KFriendRemove: h.friendRemove,
		api.KBlock:        h.block,
		api.KUnblock:      h.unblock,
		api.KFriends:      h.friendList,
		api.KInvite:       h.invite,
		api.KJoin:         h.join,
		api.KRefuse:       h.refuse,
		api.KLeave:        h.leave,
		api.KKick:         h.kick,
		api.KLead:         h.lead,
		api.KParty:        h.partyIs,
		api.KQueue:        h.queue,
		api.KCancel:       h.cancel,
		api.KAccept:       h.accept,
		api.KDecline:      h.decline,
		api.KToken:        h.token,
		api.KRating:       h.rating,
		api.KPenalty:      h.penalty,
		api.KStatus:       h.status,
		api.KLogout:       h.logout,
		api.KTime:         h.time,
		api.KMatch:        h.match,
	}
}

// reply is the first thing that a request is answered.
func (h *Hall) reply(r request, kind int, numbers ...uint64) {
	h.send(r.conn, verb.Make(kind, numbers...))
}

// ok replies that a request is done.
func (h *Hall) ok(r request) { h.reply(r, api.KOk, uint64(r.Kind)) }

func (h *Hall) login(r request) api.Errno {
	if r.player != 0 {
		return api.ErrLogin
	}
	t, e := pass.OpenTicket(h.key, r.S[0])
	switch {
	case e != api.OK:
		return e
	case t.Old(h.now):
		return api.ErrOld
	case !rack.Right(t.Player):
		return api.ErrId
	case !h.known(t.Player) && h.ratings.Len() >= h.ratings.Most():
		return api.ErrFull
	}
	if e := h.logins.Spend(t.Nonce, t.Player, 0, h.now); e != api.OK {
		return e
	}
	if !h.known(t.Player) {
		h.ratings.Put(t.Player, api.StartRating)
	}
	last, _ := h.sessions.Login(r.conn, t.Player, h.now)
	h.reply(r, api.KWelcome, uint64(t.Player), uint64(h.ratingOf(t.Player)), uint64(h.statusOf(t.Player)))
	if last != 0 {
		h.bye(last, api.ErrExists)
	}
	return api.OK
}

func (h *Hall) ping(r request) api.Errno {
	h.reply(r, api.KPong, r.N[0])
	return api.OK
}

func (h *Hall) time(r request) api.Errno {
	h.reply(r, api.KTimeIs, uint64(h.now))
	return api.OK
}

func (h *Hall) logout(r request) api.Errno {
	h.ok(r)
	h.sessions.Logout(r.conn)
	h.unqueue(r.player)
	return api.OK
}

func (h *Hall) rating(r request) api.Errno {
	if !h.known(r.other()) {
		return api.ErrMissing
	}
	h.reply(r, api.KRatingIs, uint64(r.other()), uint64(h.ratingOf(r.other())))
	return api.OK
}

func (h *Hall) penalty(r request) api.Errno {
	mark := h.Mark(r.player, h.now)
	h.reply(r, api.KPenaltyIs, uint64(mark.Level), uint64(mark.Left(h.now)))
	return api.OK
}

func (h *Hall) status(r request) api.Errno {
	if r.other() != r.player && !h.Are(r.player, r.other()) {
		return api.ErrMissing
	}
	h.reply(r, api.KStatusIs, uint64(r.other()), h.seen(r.other()))
	return api.OK
}

func (h *Hall) match(r request) api.Errno {
	// Without a seat both are zero, as is each field of the reply.
	m, _ := h.matchOf(r.player)
	s, _ := h.Seat(r.player)
	h.reply(r, api.KMatchIs, uint64(m.Id), uint64(m.Instance), uint64(s.Team), uint64(s.Number))
	return api.OK
}

// bye says on a connection that is there no more why that is so.
func (h *Hall) bye(conn uint32, e api.Errno) { h.send(conn, verb.Make(api.KBye, uint64(e))) }

// close takes a connection away, and lets its player be gone.
func (h *Hall) close(conn uint32) {
	// Without a player, or a connection, it is nobody, who is in no ticket.
	player, _ := h.sessions.Close(conn)
	h.unqueue(player)
}
