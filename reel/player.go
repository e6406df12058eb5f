package reel

import (
	"math"

	"tiltyard/api"
	"tiltyard/server"
)

// player plays events at the server that it embeds.
type player struct{ *server.Server }

// Play plays an event.
func Play(s *server.Server, e Event) Answer {
	if !Right(e) {
		return Answer{Err: api.ErrRange}
	}
	return player{s}.deeds()[e.Kind](e)
}

// deeds is what is done of each kind of event.
func (p player) deeds() map[int]func(Event) Answer {
	return map[int]func(Event) Answer{
		issued:  p.issue,
		drawn:   p.draw,
		opened:  p.open,
		shut:    p.shut,
		fed:     p.feed,
		hostFed: p.hostFeed,
		ticked:  p.tick,
		gone:    p.gone,
	}
}

func (p player) issue(e Event) Answer {
	ticket, err := p.Issue(e.Id, e.Number)
	return Answer{Err: err, Ticket: ticket}
}

func (p player) draw(e Event) Answer {
	p.Draw(e.Number)
	return Answer{}
}

func (p player) open(e Event) Answer { return Answer{Err: p.Open(e.Id)} }

func (p player) shut(e Event) Answer { return answered(p.Shut(e.Id)) }

func (p player) feed(e Event) Answer { return answered(p.Feed(e.Id, e.Bytes)) }

func (p player) hostFeed(e Event) Answer { return answered(p.HostFeed(e.Id, e.Bytes)) }

func (p player) tick(e Event) Answer { return Answer{Sends: p.Tick(int64(e.Number))} }

func (p player) gone(e Event) Answer {
	// Where an int is narrower than the number, a great one stays great: it must not wrap round to few.
	n := min(max(int64(e.Number), math.MinInt), math.MaxInt)
	return Answer{Err: p.Gone(e.Id, int(n))}
}

// answered is an answer of sends and an error.
func answered(sends []server.Send, err api.Errno) Answer {
	return Answer{Err: err, Sends: sends}
}
