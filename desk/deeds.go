package desk

import (
	"math"
	"strings"

	"tiltyard/api"
	"tiltyard/verb"
)

// deeds is what lines do, by their first words, of the words behind these.
func (d *Desk) deeds() map[string]func(...string) string {
	return map[string]func(...string) string{
		"issue": d.issue,
		"draw":  d.draw,
		"open":  d.open,
		"shut":  d.shut,
		"gone":  d.gone,
		"tick":  d.tick,
		"login": d.login,
		"ask":   d.ask,
		"come":  d.come,
		"host":  d.host,
		"see":   d.see,
		"queue": d.queue,
		"match": d.match,
		"now":   d.now,
	}
}

func (d *Desk) issue(words ...string) string {
	count(2, words...)
	ticket, e := d.server.Issue(id(words[0]), number(words[1]))
	check(e)
	return line("text", d.keep(ticket))
}

func (d *Desk) draw(words ...string) string {
	count(1, words...)
	d.server.Draw(number(words[0]))
	return d.answer(nil, api.OK)
}

func (d *Desk) open(words ...string) string {
	count(1, words...)
	return d.answer(nil, d.server.Open(id(words[0])))
}

func (d *Desk) shut(words ...string) string {
	count(1, words...)
	return d.answer(d.server.Shut(id(words[0])))
}

func (d *Desk) gone(words ...string) string {
	count(2, words...)
	// Where an int is narrower than the number, a great one stays great: it must not wrap round to few.
	conn, n := id(words[0]), min(number(words[1]), math.MaxInt)
	return d.answer(nil, d.server.Gone(conn, int(n)))
}

func (d *Desk) tick(words ...string) string {
	count(1, words...)
	return d.answer(d.server.Tick(int64(number(words[0]))), api.OK)
}

func (d *Desk) login(words ...string) string {
	count(2, words...)
	conn, b := id(words[0]), wrapped(verb.Make(api.KLogin).With(d.text(words[1])))
	return d.answer(d.server.Feed(conn, b))
}

func (d *Desk) ask(words ...string) string {
	must(len(words) >= 2, api.ErrOp)
	conn, b := id(words[0]), message(requests, api.KLogin, words[1], words[2:]...)
	return d.answer(d.server.Feed(conn, b))
}

func (d *Desk) come(words ...string) string {
	count(2, words...)
	instance, b := id(words[0]), wrapped(verb.Make(api.KCome).With(d.text(words[1])))
	return d.answer(d.server.HostFeed(instance, b))
}

func (d *Desk) host(words ...string) string {
	must(len(words) >= 2, api.ErrOp)
	instance, b := id(words[0]), message(reports, api.KCome, words[1], words[2:]...)
	return d.answer(d.server.HostFeed(instance, b))
}

func (d *Desk) see(words ...string) string {
	count(1, words...)
	x, is := d.server.See(id(words[0]))
	must(is, api.ErrMissing)
	return line(
		"player", decimal(x.Player), "conn", decimal(x.Conn), "status", decimal(x.Status), "rating", decimal(x.Rating),
		"party", decimal(x.Party), "ticket", decimal(x.Ticket), "check", decimal(x.Check), "match", decimal(x.Match),
		"level", decimal(x.Mark.Level), "until", decimal(x.Mark.Until),
	)
}

func (d *Desk) queue(words ...string) string {
	count(1, words...)
	var told strings.Builder
	for _, t := range d.server.Queue(int(id(words[0]))) {
		ticket := []string{"ticket", decimal(t.Id), "since", decimal(t.Since), "rating", decimal(t.Rating), "players"}
		told.WriteString(line(put(ticket, t.Players...)...))
	}
	return unlessNothing(told.String())
}

func (d *Desk) match(words ...string) string {
	count(1, words...)
	m, is := d.server.Match(id(words[0]))
	must(is, api.ErrMissing)
	told := line("match", decimal(m.Id), "mode", decimal(m.Mode), "instance", decimal(m.Instance))
	for _, s := range m.Seats {
		told += line("seat", decimal(s.Number), "player", decimal(s.Player), "team", decimal(s.Team), "state", decimal(s.State))
	}
	return told
}

func (d *Desk) now(words ...string) string {
	count(0, words...)
	return line("now", decimal(d.server.Now()))
}
