package hall

import (
	"tiltyard/api"
	"tiltyard/draft"
	"tiltyard/fill"
	"tiltyard/verb"
)

// Tick lets time go on.
func (h *Hall) Tick(some int64) []Out {
	if h == nil {
		return nil
	}
	h.now = h.in(some)
	h.logins.Sweep(h.now)
	h.tokens.Sweep(h.now)
	h.marks.Sweep(h.now)
	h.closeIdle()
	h.killLate()
	h.meetDeadlines()
	h.fillSeats()
	h.findMatches()
	return h.said()
}

func (h *Hall) closeIdle() {
	for _, conn := range h.Idle(h.now) {
		h.bye(conn, api.ErrOld)
		h.close(conn)
	}
}

func (h *Hall) killLate() {
	for _, instance := range h.Late(h.now) {
		match, _ := h.instances.Kill(instance)
		h.voids(match)
	}
}

// meetDeadlines lets all fail that was waited for till now.
func (h *Hall) meetDeadlines() {
	for {
		due, is := h.Due(h.now)
		switch {
		case !is:
			return
		case due.Kind == seatDue:
			h.lose(due.Id)
		default:
			c, _ := h.checks.Check(due.Id)
			h.fails(due.Id, silent, c.Missing()...)
		}
	}
}

// fillSeats lets tickets sit down where live matches have free seats.
func (h *Hall) fillSeats() {
	for _, id := range h.Matches() {
		for h.fillOne(id) {
		}
	}
}

// fillOne lets the first ticket that may sit down in a match, if it is live, and tells whether there was one.
func (h *Hall) fillOne(id uint32) bool {
	m, _ := h.Match(id)
	if !h.live(m.Instance) {
		return false
	}
	mode, _ := h.set.Mode(m.Mode)
	l := h.Queue(m.Mode)
	place, team, is := fill.Find(mode, h.now, l, m.Rows...)
	if !is {
		return false
	}
	t := l[place]
	h.waiting.Drop(t.Id)
	h.matches.Add(id, h.row(team, t))
	h.admit(t.Players...)
	h.host(m.Instance, verb.Make(api.KFilled, uint64(id), uint64(team)).And(t.Players))
	return true
}

// findMatches finds matches, as long as there is where to play them.
func (h *Hall) findMatches() {
	for number, mode := range h.set.Modes {
		for h.Least() != 0 {
			l := h.Queue(number)
			s, is := draft.Find(mode, h.now, l)
			if !is {
				break
			}
			h.pair(number, l, s)
		}
	}
}
