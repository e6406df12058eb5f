package hall

import (
	"tiltyard/api"
	"tiltyard/pass"
	"tiltyard/pool"
	"tiltyard/seat"
	"tiltyard/verb"
	"tiltyard/verdict"
)

// report is a message from an instance's host, and the instance as it is.
type report struct {
	from uint32
	pool.Instance
	verb.Msg
}

// Report takes a host's report.
func (h *Hall) Report(instance uint32, m verb.Msg) []Out {
	x, is := h.Instance(instance)
	if !is {
		return nil
	}
	r := report{from: instance, Instance: x, Msg: m}
	if e := h.take(r); e != api.OK {
		h.host(instance, wrong(api.KRefused, m.Kind, e))
	}
	return h.said()
}

// take does what a report says, or tells what is wrong with it.
func (h *Hall) take(r report) api.Errno {
	if _, e := verb.Encode(r.Msg); e != api.OK {
		return e
	}
	takes, is := h.reports[r.Kind]
	if !is {
		return api.ErrKind
	}
	return takes(r)
}

// allReports are what takes each kind of report. Each of them finds all errors ahead of the first thing that it changes.
func (h *Hall) allReports() map[int]func(report) api.Errno {
	return map[int]func(report) api.Errno{
		api.KHello:  h.hello,
		api.KBeat:   h.beat,
		api.KUp:     h.up,
		api.KCome:   h.come,
		api.KLeft:   h.left,
		api.KResult: h.result,
		api.KFreed:  h.freed,
	}
}

func (h *Hall) hello(r report) api.Errno {
	match, e := h.instances.Hello(r.from, h.now)
	h.voids(match)
	return e
}

func (h *Hall) beat(r report) api.Errno { return h.instances.Beat(r.from, h.now) }

func (h *Hall) freed(r report) api.Errno { return h.instances.Freed(r.from, h.now) }

func (h *Hall) up(r report) api.Errno {
	if e := h.instances.Up(r.from, h.now); e != api.OK {
		return e
	}
	m, _ := h.Match(r.Match)
	for _, s := range m.Seats {
		h.admit(s.Player)
	}
	return api.OK
}

func (h *Hall) come(r report) api.Errno {
	if r.State != pool.Live {
		return api.ErrState
	}
	t, e := pass.OpenToken(h.key, r.S[0])
	switch {
	case e != api.OK:
		return e
	case uint32(t.Instance) != r.from || t.Match != r.Match:
		return api.ErrWrong
	}
	if e := h.tokens.Spend(t.Nonce, t.Player, t.Match, h.now); e != api.OK {
		return e
	}
	h.matches.Set(t.Player, seat.In, 0, 0)
	h.deadlines.Clear(seatDue, t.Player)
	h.host(r.from, verb.Make(api.KJoined, uint64(t.Match), uint64(t.Player)))
	h.tell(verb.Make(api.KLive, uint64(t.Match)), t.Player)
	return api.OK
}

func (h *Hall) left(r report) api.Errno {
	player := uint32(r.N[0])
	s, _ := h.Seat(player)
	switch {
	case r.State != pool.Live:
		return api.ErrState
	case h.matches.Of(player) != r.Match || s.State != seat.In:
		return api.ErrMissing
	}
	till := h.in(h.set.Grace)
	h.matches.Set(player, seat.Away, till, 0)
	h.deadlines.Set(seatDue, player, till)
	return api.OK
}

func (h *Hall) result(r report) api.Errno {
	if r.State != pool.Live {
		return api.ErrState
	}
	result := int(r.N[1])
	_, m, e := verdict.Report(h.ratings, h.matches, r.from, uint32(r.N[0]), result)
	if e != api.OK {
		return e
	}
	h.instances.Drain(r.from)
	h.over(m, result)
	return api.OK
}
