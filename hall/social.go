package hall

import (
	"slices"

	"tiltyard/api"
	"tiltyard/party"
	"tiltyard/verb"
)

func (h *Hall) friendAsk(r request) api.Errno {
	if !h.known(r.other()) {
		return api.ErrMissing
	}
	now, e := h.graph.Ask(r.player, r.other())
	if e != api.OK {
		return e
	}
	h.ok(r)
	if now {
		h.friendsNow(r.player, r.other())
		return api.OK
	}
	h.tell(verb.Make(api.KFriendAsked, uint64(r.player)), r.other())
	return api.OK
}

func (h *Hall) friendAccept(r request) api.Errno {
	if e := h.graph.Accept(r.player, r.other()); e != api.OK {
		return e
	}
	h.ok(r)
	h.friendsNow(r.player, r.other())
	return api.OK
}

func (h *Hall) friendRefuse(r request) api.Errno {
	if e := h.graph.Refuse(r.player, r.other()); e != api.OK {
		return e
	}
	h.ok(r)
	return api.OK
}

func (h *Hall) friendRemove(r request) api.Errno {
	if e := h.graph.Remove(r.player, r.other()); e != api.OK {
		return e
	}
	h.ok(r)
	h.friendGone(r)
	return api.OK
}

func (h *Hall) block(r request) api.Errno {
	if !h.known(r.other()) {
		return api.ErrMissing
	}
	were, e := h.graph.Block(r.player, r.other())
	if e != api.OK {
		return e
	}
	h.ok(r)
	if were {
		h.friendGone(r)
	}
	return api.OK
}

func (h *Hall) unblock(r request) api.Errno {
	if e := h.graph.Unblock(r.player, r.other()); e != api.OK {
		return e
	}
	h.ok(r)
	return api.OK
}

func (h *Hall) friendList(r request) api.Errno {
	l := h.Links(r.player)
	h.send(r.conn, verb.Make(api.KFriendList).And(l.Friends, l.Asks, l.Asked))
	return api.OK
}

// friendsNow tells two who are friends now what is seen of the other one.
func (h *Hall) friendsNow(a, b uint32) {
	h.tell(verb.Make(api.KFriendNow, uint64(b), h.seen(b)), a)
	h.tell(verb.Make(api.KFriendNow, uint64(a), h.seen(a)), b)
}

// friendGone tells the other one of a request that they are friends no more.
func (h *Hall) friendGone(r request) {
	h.tell(verb.Make(api.KFriendGone, uint64(r.player)), r.other())
}

func (h *Hall) invite(r request) api.Errno {
	switch {
	case !h.known(r.other()):
		return api.ErrMissing
	case h.blocked(r.player, r.other()):
		return api.ErrBlocked
	}
	id, e := h.parties.Invite(r.player, r.other())
	if e != api.OK {
		return e
	}
	h.ok(r)
	h.tell(verb.Make(api.KInvited, uint64(id), uint64(r.player)), r.other())
	return api.OK
}

func (h *Hall) join(r request) api.Errno {
	if e := h.parties.Join(r.other(), r.player); e != api.OK {
		return e
	}
	h.ok(r)
	h.partyNow(h.partyOf(r.player))
	return api.OK
}

func (h *Hall) refuse(r request) api.Errno {
	p, _ := h.Party(r.other())
	over, e := h.parties.Refuse(p.Id, r.player)
	if e != api.OK {
		return e
	}
	h.ok(r)
	if over {
		h.partyOver(p.Id, p.Members...)
	}
	return api.OK
}

func (h *Hall) leave(r request) api.Errno {
	p := h.partyOf(r.player)
	_, over, e := h.parties.Leave(r.player)
	if e != api.OK {
		return e
	}
	h.ok(r)
	h.partyLess(p, r.player, over)
	return api.OK
}

func (h *Hall) kick(r request) api.Errno {
	p := h.partyOf(r.player)
	over, e := h.parties.Kick(r.player, r.other())
	if e != api.OK {
		return e
	}
	h.ok(r)
	member := slices.Contains(p.Members, r.other())
	if member {
		h.partyOver(p.Id, r.other())
	}
	// Whoever was only invited is missed by nobody.
	if member || over {
		h.partyLess(p, r.other(), over)
	}
	return api.OK
}

// partyLess tells those who are left of a party, which was so ahead of it, that it has one player less, or is over.
func (h *Hall) partyLess(was party.Party, player uint32, over bool) {
	if over {
		h.partyOver(was.Id, slices.DeleteFunc(was.Members, func(member uint32) bool { return member == player })...)
		return
	}
	now, _ := h.Party(was.Id)
	h.partyNow(now)
}

func (h *Hall) lead(r request) api.Errno {
	if e := h.parties.Lead(r.player, r.other()); e != api.OK {
		return e
	}
	h.ok(r)
	h.partyNow(h.partyOf(r.player))
	return api.OK
}

func (h *Hall) partyIs(r request) api.Errno {
	h.send(r.conn, partyMsg(api.KPartyIs, h.partyOf(r.player)))
	return api.OK
}
