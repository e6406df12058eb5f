package hall

import (
	"tiltyard/api"
	"tiltyard/board"
	"tiltyard/party"
	"tiltyard/verb"
)

// send says a message on a connection.
func (h *Hall) send(conn uint32, m verb.Msg) { h.outs = append(h.outs, Out{To: conn, Msg: m}) }

// host says a message to an instance's host.
func (h *Hall) host(instance uint32, m verb.Msg) {
	h.outs = append(h.outs, Out{Host: true, To: instance, Msg: m})
}

// tell says a message to those of some players who are logged in, each of them in memory of its own.
func (h *Hall) tell(m verb.Msg, players ...uint32) {
	for _, player := range players {
		if conn := h.Conn(player); conn != 0 {
			h.send(conn, verb.Make(m.Kind, m.N...).With(m.S...).And(m.L...))
		}
	}
}

// said ends a call: of whom something else is seen now that player's friends are told, and all that was said is handed out.
func (h *Hall) said() []Out {
	for _, player := range h.Known() {
		h.screen.Set(player, h.statusOf(player))
	}
	for _, c := range h.Flush() {
		friends := board.Audience(h.graph, c.Player, h.sessions.Players()...)
		h.tell(verb.Make(api.KPresence, uint64(c.Player), uint64(c.Seen)), friends...)
	}
	outs := h.outs
	h.outs = nil
	return outs
}

// seen is what is seen of a player.
func (h *Hall) seen(player uint32) uint64 { return uint64(board.Seen(h.statusOf(player))) }

// partyNow tells a party's members what it is.
func (h *Hall) partyNow(p party.Party) {
	h.tell(partyMsg(api.KPartyNow, p), p.Members...)
}

// partyOver tells some players that they are members of a party no more.
func (h *Hall) partyOver(id uint32, players ...uint32) {
	h.tell(verb.Make(api.KPartyOver, uint64(id)), players...)
}

// partyMsg is a message of a party.
func partyMsg(kind int, p party.Party) verb.Msg {
	return verb.Make(kind, uint64(p.Id), uint64(p.Leader)).And(p.Members)
}

// wrong is a message of an error that a kind of message met: of the kind its lowest 8 bits.
func wrong(as, kind int, e api.Errno) verb.Msg {
	return verb.Make(as, uint64(uint8(kind)), uint64(e))
}
