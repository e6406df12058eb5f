package verb

import "tiltyard/api"

// Whose kinds are.
const (
	nobody   = 0 // there is no such kind
	player   = 1 // requests of players
	toPlayer = 2 // replies and events for players
	toHost   = 3 // messages for hosts
	host     = 4 // reports of hosts
)

// entry is a kind's name and the shape of its fields.
type entry struct {
	name, shape string
}

// The kinds stand in runs of numbers that follow each other, each in a table of its own, by its place in its run.

// requests are the kinds from KLogin on.
var requests = [api.KMatch - api.KLogin + 1]entry{
	{"login", "s"},
	{"ping", "d"},
	{"friend-ask", "d"},
	{"friend-accept", "d"},
	{"friend-refuse", "d"},
	{"friend-remove", "d"},
	{"block", "d"},
	{"unblock", "d"},
	{"friends", ""},
	{"invite", "d"},
	{"join", "d"},
	{"refuse", "d"},
	{"leave", ""},
	{"kick", "d"},
	{"lead", "d"},
	{"party", ""},
	{"queue", "b"},
	{"cancel", ""},
	{"accept", ""},
	{"decline", ""},
	{"token", ""},
	{"rating", "d"},
	{"penalty", ""},
	{"status", "d"},
	{"logout", ""},
	{"time", ""},
	{"match", ""},
}

// replies are the kinds from KOk on.
var replies = [api.KMatchIs - api.KOk + 1]entry{
	{"ok", "b"},
	{"error", "bb"},
	{"welcome", "ddb"},
	{"pong", "d"},
	{"friend-list", "lll"},
	{"party-is", "ddl"},
	{"rating-is", "dd"},
	{"penalty-is", "bq"},
	{"status-is", "db"},
	{"time-is", "q"},
	{"match-is", "dwbb"},
}

// events are the kinds from KFriendAsked on.
var events = [api.KBye - api.KFriendAsked + 1]entry{
	{"friend-asked", "d"},
	{"friend-now", "db"},
	{"friend-gone", "d"},
	{"presence", "db"},
	{"invited", "dd"},
	{"party-now", "ddl"},
	{"party-over", "d"},
	{"queued", "b"},
	{"unqueued", "b"},
	{"check", "dq"},
	{"check-over", "db"},
	{"seat", "dwbbqs"},
	{"live", "d"},
	{"over", "dbd"},
	{"penalised", "bbq"},
	{"bye", "b"},
}

// orders are the kinds from KStart on.
var orders = [api.KRefused - api.KStart + 1]entry{
	{"start", "dbll"},
	{"filled", "dbl"},
	{"lost", "dd"},
	{"drain", "d"},
	{"joined", "dd"},
	{"refused", "bb"},
}

// reports are the kinds from KHello on.
var reports = [api.KFreed - api.KHello + 1]entry{
	{"hello", ""},
	{"beat", ""},
	{"up", ""},
	{"come", "s"},
	{"left", "d"},
	{"result", "db"},
	{"freed", ""},
}

// look finds a kind's entry, and whose it is.
func look(kind int) (entry, int) {
	switch {
	case kind >= api.KLogin && kind <= api.KMatch:
		return requests[kind-api.KLogin], player
	case kind >= api.KOk && kind <= api.KMatchIs:
		return replies[kind-api.KOk], toPlayer
	case kind >= api.KFriendAsked && kind <= api.KBye:
		return events[kind-api.KFriendAsked], toPlayer
	case kind >= api.KStart && kind <= api.KRefused:
		return orders[kind-api.KStart], toHost
	case kind >= api.KHello && kind <= api.KFreed:
		return reports[kind-api.KHello], host
	}
	return entry{}, nobody
}
