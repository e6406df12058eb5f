package hall_test

import (
	"fmt"
	"maps"
	"math"
	"math/rand"
	"slices"
	"strings"
	"testing"

	"tiltyard/api"
	"tiltyard/draft"
	"tiltyard/elo"
	"tiltyard/fill"
	"tiltyard/hall"
	"tiltyard/ledger"
	"tiltyard/pass"
	"tiltyard/penal"
	"tiltyard/plan"
	"tiltyard/pool"
	"tiltyard/queue"
	"tiltyard/seat"
	"tiltyard/verb"
)

// model is the whole machine once more, as the chapters tell of it, in plain maps. Of the layers below it takes what has no memory:
// which tickets make a match, or may sit down, what a result makes of ratings, and marks in time.
type model struct {
	set       plan.Config
	now       int64
	conns     map[uint32]*mConn
	players   map[uint32]*mPlayer
	parties   map[uint32]*party3
	tickets   map[uint32]queue.Ticket
	checks    map[uint32]*mCheck
	matches   map[uint32]*seat.Match
	instances []pool.Instance
	logins    map[uint64]ledger.Entry
	tokens    map[uint64]ledger.Entry
	due       []mDue
	drawn     uint64
	made      uint64
	lastT     uint32
	lastM     uint32
	outs      []string
}

type mConn struct {
	touched int64
	player  uint32
}

type mPlayer struct {
	rating                int
	mark                  penal.Mark
	friends, asks, blocks map[uint32]bool
	told                  int
}

type party3 struct {
	leader           uint32
	members, invited []uint32
}

type mCheck struct {
	mode     int
	instance uint32
	tickets  []queue.Ticket
	rows     []fill.Row
	yes      []uint32
	until    int64
}

// mDue is what is waited for: of a check its match, of a seat its player. They stand as they were set.
type mDue struct {
	seat bool
	id   uint32
	at   int64
}

func newModel(c plan.Config) *model {
	return &model{
		set: c, conns: map[uint32]*mConn{}, players: map[uint32]*mPlayer{}, parties: map[uint32]*party3{}, tickets: map[uint32]queue.Ticket{},
		checks: map[uint32]*mCheck{}, matches: map[uint32]*seat.Match{}, instances: make([]pool.Instance, c.Instances),
		logins: map[uint64]ledger.Entry{}, tokens: map[uint64]ledger.Entry{},
	}
}

// rising are a map's keys.
func rising[V any](m map[uint32]V) []uint32 { return slices.Sorted(maps.Keys(m)) }

func (m *model) say(to string, kind int, words ...any) {
	s := strings.TrimSpace(fmt.Sprintf("%s %s %s", to, verb.Name(kind), strings.TrimSuffix(fmt.Sprintln(words...), "\n")))
	m.outs = append(m.outs, s)
}

func (m *model) conn(conn uint32, kind int, words ...any) { m.say(fmt.Sprint(conn), kind, words...) }

func (m *model) host(id uint32, kind int, words ...any) {
	m.say(fmt.Sprint("host ", id), kind, words...)
}

func (m *model) where(player uint32) uint32 {
	for _, conn := range rising(m.conns) {
		if player != 0 && m.conns[conn].player == player {
			return conn
		}
	}
	return 0
}

func (m *model) tell(players []uint32, kind int, words ...any) {
	for _, player := range slices.Clone(players) {
		if conn := m.where(player); conn != 0 {
			m.conn(conn, kind, words...)
		}
	}
}

func (m *model) checkOf(player uint32) uint32 {
	for id, c := range m.checks {
		if slices.Contains(c.players(), player) {
			return id
		}
	}
	return 0
}

func (c *mCheck) players() []uint32 {
	var l []uint32
	for _, t := range c.tickets {
		l = append(l, t.Players...)
	}
	return l
}

func (m *model) ticketOf(player uint32) uint32 {
	for id, t := range m.tickets {
		if slices.Contains(t.Players, player) {
			return id
		}
	}
	return 0
}

// seatOf is a player's seat, where it stands, and its match.
func (m *model) seatOf(player uint32) (*seat.Seat, *seat.Match) {
	for _, x := range m.matches {
		for i := range x.Seats {
			if x.Seats[i].Player == player {
				return &x.Seats[i], x
			}
		}
	}
	return nil, nil
}

func (m *model) partyOf(player uint32) (uint32, *party3) {
	for id, p := range m.parties {
		if slices.Contains(p.members, player) {
			return id, p
		}
	}
	return 0, nil
}

func (m *model) status(player uint32) int {
	if m.checkOf(player) != 0 {
		return api.Checking
	}
	if s, _ := m.seatOf(player); s != nil {
		return map[int]int{seat.Waiting: api.Reserved, seat.In: api.Playing, seat.Away: api.Away}[s.State]
	}
	if m.ticketOf(player) != 0 {
		return api.Queued
	}
	if m.where(player) != 0 {
		return api.Idle
	}
	return api.Offline
}

func (m *model) seen(player uint32) int {
	return []int{api.Offline, api.Idle, api.Queued, api.Queued, api.Playing, api.Playing, api.Offline}[m.status(player)]
}

// end is what was answered to a call.
func (m *model) end() string {
	for _, player := range rising(m.players) {
		p := m.players[player]
		if seen := m.seen(player); seen != p.told {
			p.told = seen
			for _, friend := range rising(p.friends) {
				m.tell([]uint32{friend}, api.KPresence, player, seen)
			}
		}
	}
	s := strings.Join(m.outs, "; ")
	m.outs = nil
	return s
}

func (m *model) later(some int64) int64 {
	if m.now > math.MaxInt64-some {
		return math.MaxInt64
	}
	return m.now + some
}

func (m *model) setDue(isSeat bool, id uint32, at int64) {
	m.clearDue(isSeat, id)
	m.due = append(m.due, mDue{isSeat, id, at})
}

func (m *model) clearDue(isSeat bool, id uint32) {
	m.due = slices.DeleteFunc(m.due, func(d mDue) bool { return d.seat == isSeat && d.id == id })
}

func (m *model) issue(player uint32, nonce uint64) api.Errno {
	e := ledger.Entry{Nonce: nonce, Owner: player, Expiry: m.later(m.set.TicketLife)}
	_, there := m.logins[nonce]
	switch {
	case player < 1 || player > last:
		return api.ErrId
	case there:
		return api.ErrExists
	case len(m.logins) >= 256:
		return api.ErrFull
	}
	m.logins[nonce] = e
	return api.OK
}

func (m *model) open(conn uint32) api.Errno {
	switch {
	case conn < 1 || conn > last:
		return api.ErrId
	case m.conns[conn] != nil:
		return api.ErrExists
	case len(m.conns) >= m.set.Conns:
		return api.ErrFull
	}
	m.conns[conn] = &mConn{touched: m.now}
	return api.OK
}

func (m *model) close(conn uint32) {
	if c := m.conns[conn]; c != nil {
		delete(m.conns, conn)
		m.gone(c.player)
	}
}

func (m *model) gone(player uint32) {
	if id := m.ticketOf(player); id != 0 {
		t := m.tickets[id]
		delete(m.tickets, id)
		m.tell(t.Players, api.KUnqueued, t.Mode)
	}
}

func (m *model) request(conn uint32, msg verb.Msg) {
	c := m.conns[conn]
	if c == nil {
		return
	}
	c.touched = m.now
	_, e := verb.Encode(msg)
	switch {
	case e != api.OK:
	case msg.Kind < api.KLogin || msg.Kind > api.KMatch:
		e = api.ErrKind
	case c.player == 0 && msg.Kind != api.KLogin && msg.Kind != api.KPing && msg.Kind != api.KTime:
		e = api.ErrLogin
	default:
		e = m.serve(conn, c, msg)
	}
	if e != api.OK {
		m.conn(conn, api.KError, msg.Kind&255, int(e))
	}
}

func (m *model) serve(conn uint32, c *mConn, msg verb.Msg) api.Errno {
	p, x := c.player, uint32(0)
	if len(msg.N) > 0 {
		x = uint32(msg.N[0])
	}
	ok := func() { m.conn(conn, api.KOk, msg.Kind) }
	me, you := m.players[p], m.players[x]
	switch msg.Kind {
	case api.KLogin:
		return m.login(conn, c, msg.S[0])
	case api.KPing:
		m.conn(conn, api.KPong, x)
	case api.KTime:
		m.conn(conn, api.KTimeIs, m.now)
	case api.KLogout:
		ok()
		c.player = 0
		m.gone(p)
	case api.KRating:
		if you == nil {
			return api.ErrMissing
		}
		m.conn(conn, api.KRatingIs, x, you.rating)
	case api.KPenalty:
		mark := me.mark.At(m.now)
		m.conn(conn, api.KPenaltyIs, mark.Level, mark.Left(m.now))
	case api.KStatus:
		if x != p && !me.friends[x] {
			return api.ErrMissing
		}
		m.conn(conn, api.KStatusIs, x, m.seen(x))
	case api.KMatch:
		s, g := m.seatOf(p)
		if s == nil {
			s, g = &seat.Seat{}, &seat.Match{}
		}
		m.conn(conn, api.KMatchIs, g.Id, g.Instance, s.Team, s.Number)
	case api.KCancel:
		if m.ticketOf(p) == 0 {
			return api.ErrState
		}
		ok()
		m.gone(p)
	case api.KAccept:
		id := m.checkOf(p)
		if id == 0 {
			return api.ErrState
		}
		check := m.checks[id]
		if slices.Contains(check.yes, p) {
			return api.ErrExists
		}
		check.yes = append(check.yes, p)
		ok()
		if len(check.yes) == len(check.players()) {
			m.starts(id)
		}
	case api.KDecline:
		id := m.checkOf(p)
		if id == 0 {
			return api.ErrState
		}
		ok()
		m.fails(id, 1, p)
	case api.KToken:
		s, g := m.seatOf(p)
		if s == nil || s.State == seat.In || m.instances[g.Instance-1].State != pool.Live {
			return api.ErrState
		}
		delete(m.tokens, s.Nonce)
		m.token(p, s.Until)
	case api.KQueue:
		return m.queue(p, int(x), ok)
	case api.KInvite, api.KJoin, api.KRefuse, api.KLeave, api.KKick, api.KLead, api.KParty:
		return m.ofParties(conn, p, x, msg.Kind, ok)
	default:
		return m.ofFriends(conn, p, x, msg.Kind, ok)
	}
	return api.OK
}

func (m *model) login(conn uint32, c *mConn, s string) api.Errno {
	t, e := pass.OpenTicket(key, s)
	entry, there := m.logins[t.Nonce]
	switch {
	case c.player != 0:
		return api.ErrLogin
	case e != api.OK:
		return e
	case m.now > t.Expiry:
		return api.ErrOld
	case t.Player < 1 || t.Player > last:
		return api.ErrId
	case m.players[t.Player] == nil && len(m.players) >= m.set.Players:
		return api.ErrFull
	case !there:
		return api.ErrMissing
	case entry.Owner != t.Player:
		return api.ErrWrong
	}
	delete(m.logins, t.Nonce)
	if m.players[t.Player] == nil {
		m.players[t.Player] = &mPlayer{rating: 1500, friends: map[uint32]bool{}, asks: map[uint32]bool{}, blocks: map[uint32]bool{}}
	}
	old := m.where(t.Player)
	delete(m.conns, old)
	c.player = t.Player
	m.conn(conn, api.KWelcome, t.Player, m.players[t.Player].rating, m.status(t.Player))
	if old != 0 {
		m.conn(old, api.KBye, 11)
	}
	return api.OK
}

// links is how many a player has.
func (m *model) links(player uint32) int {
	n := len(m.players[player].friends) + len(m.players[player].asks)
	for _, other := range m.players {
		if other.asks[player] {
			n++
		}
	}
	return n
}

func (m *model) ofFriends(conn, p, x uint32, kind int, ok func()) api.Errno {
	me, you := m.players[p], m.players[x]
	now := func() {
		me.friends[x], you.friends[p] = true, true
		m.tell([]uint32{p}, api.KFriendNow, x, m.seen(x))
		m.tell([]uint32{x}, api.KFriendNow, p, m.seen(p))
	}
	if you == nil && (kind == api.KFriendAsk || kind == api.KBlock) || you == nil && kind != api.KFriends {
		return api.ErrMissing
	}
	switch kind {
	case api.KFriendAsk:
		switch {
		case x == p:
			return api.ErrSelf
		case me.blocks[x] || you.blocks[p]:
			return api.ErrBlocked
		case me.friends[x] || me.asks[x]:
			return api.ErrExists
		case you.asks[p]:
			delete(you.asks, p)
			ok()
			now()
			return api.OK
		case m.links(p) >= 16 || m.links(x) >= 16:
			return api.ErrFull
		}
		me.asks[x] = true
		ok()
		m.tell([]uint32{x}, api.KFriendAsked, p)
	case api.KFriendAccept, api.KFriendRefuse:
		if !you.asks[p] {
			return api.ErrMissing
		}
		delete(you.asks, p)
		ok()
		if kind == api.KFriendAccept {
			now()
		}
	case api.KFriendRemove:
		if !me.friends[x] {
			return api.ErrMissing
		}
		ok()
		m.part(p, x)
	case api.KBlock:
		switch {
		case x == p:
			return api.ErrSelf
		case me.blocks[x]:
			return api.ErrExists
		case len(me.blocks) >= 16:
			return api.ErrFull
		}
		ok()
		if me.friends[x] {
			m.part(p, x)
		}
		delete(me.asks, x)
		delete(you.asks, p)
		me.blocks[x] = true
	case api.KUnblock:
		if !me.blocks[x] {
			return api.ErrMissing
		}
		ok()
		delete(me.blocks, x)
	case api.KFriends:
		var asked []uint32
		for _, other := range rising(m.players) {
			if m.players[other].asks[p] {
				asked = append(asked, other)
			}
		}
		m.conn(conn, api.KFriendList, rising(me.friends), rising(me.asks), asked)
	}
	return api.OK
}

func (m *model) part(p, x uint32) {
	delete(m.players[p].friends, x)
	delete(m.players[x].friends, p)
	m.tell([]uint32{x}, api.KFriendGone, p)
}

func (m *model) ofParties(conn, p, x uint32, kind int, ok func()) api.Errno {
	id, mine := m.partyOf(p)
	named := m.parties[x]
	is := func(l []uint32, player uint32) bool { return slices.Contains(l, player) }
	now := func(id uint32) {
		g := m.parties[id]
		m.tell(g.members, api.KPartyNow, id, g.leader, g.members)
	}
	// leave takes a player out of a party, and tells whether it is over.
	leave := func(id, player uint32) bool {
		g := m.parties[id]
		not := func(other uint32) bool { return other == player }
		g.members, g.invited = slices.DeleteFunc(g.members, not), slices.DeleteFunc(g.invited, not)
		if len(g.members) == 0 || len(g.members) == 1 && len(g.invited) == 0 {
			delete(m.parties, id)
			m.tell(g.members, api.KPartyOver, id)
			return true
		}
		if g.leader == player {
			g.leader = g.members[0]
		}
		return false
	}
	switch kind {
	case api.KInvite:
		switch {
		case m.players[x] == nil:
			return api.ErrMissing
		case m.players[x].blocks[p] || m.players[p].blocks[x]:
			return api.ErrBlocked
		case x == p:
			return api.ErrSelf
		case mine != nil && mine.leader != p:
			return api.ErrLeader
		case mine != nil && (is(mine.members, x) || is(mine.invited, x)):
			return api.ErrExists
		case mine != nil && len(mine.members)+len(mine.invited) >= 4:
			return api.ErrSize
		case mine == nil && len(m.parties) >= m.set.Parties:
			return api.ErrFull
		}
		if mine == nil {
			for id = 1; m.parties[id] != nil; id++ {
			}
			mine = &party3{leader: p, members: []uint32{p}}
			m.parties[id] = mine
		}
		mine.invited = append(mine.invited, x)
		ok()
		m.tell([]uint32{x}, api.KInvited, id, p)
	case api.KJoin:
		switch {
		case named == nil || !is(named.invited, p):
			return api.ErrMissing
		case mine != nil:
			return api.ErrBusy
		}
		named.members = append(named.members, p)
		named.invited = slices.DeleteFunc(named.invited, func(other uint32) bool { return other == p })
		ok()
		now(x)
	case api.KRefuse:
		if named == nil || !is(named.invited, p) {
			return api.ErrMissing
		}
		ok()
		leave(x, p)
	case api.KLeave:
		if mine == nil {
			return api.ErrMissing
		}
		ok()
		if !leave(id, p) {
			now(id)
		}
	case api.KKick, api.KLead:
		switch {
		case mine == nil:
			return api.ErrMissing
		case mine.leader != p:
			return api.ErrLeader
		case x == p:
			return api.ErrSelf
		case !is(mine.members, x) && (kind == api.KLead || !is(mine.invited, x)):
			return api.ErrWrong
		}
		ok()
		member := is(mine.members, x)
		if kind == api.KLead {
			mine.leader = x
			now(id)
			return api.OK
		}
		if member {
			m.tell([]uint32{x}, api.KPartyOver, id)
		}
		if !leave(id, x) && member {
			now(id)
		}
	case api.KParty:
		if mine == nil {
			mine = &party3{}
		}
		m.conn(conn, api.KPartyIs, id, mine.leader, mine.members)
	}
	return api.OK
}

func (m *model) queue(p uint32, mode int, ok func()) api.Errno {
	id, mine := m.partyOf(p)
	players := []uint32{p}
	if id != 0 {
		players = slices.Clone(mine.members)
	}
	switch {
	case mode >= len(m.set.Modes):
		return api.ErrMode
	case id != 0 && mine.leader != p:
		return api.ErrLeader
	case len(players) > m.set.Modes[mode].K:
		return api.ErrSize
	}
	var ratings []int
	for _, player := range players {
		switch {
		case m.where(player) == 0:
			return api.ErrOffline
		case m.status(player) != api.Idle:
			return api.ErrBusy
		case m.now < m.players[player].mark.At(m.now).Until:
			return api.ErrBanned
		}
		ratings = append(ratings, m.players[player].rating)
	}
	if len(m.line(mode)) >= 16 {
		return api.ErrFull
	}
	m.lastT++
	m.tickets[m.lastT] = queue.Ticket{Id: m.lastT, Mode: mode, Players: players, Rating: elo.Mean(ratings...), Since: m.now}
	ok()
	m.tell(players, api.KQueued, mode)
	return api.OK
}

// line are a mode's tickets, in order.
func (m *model) line(mode int) []queue.Ticket {
	var l []queue.Ticket
	for _, id := range rising(m.tickets) {
		if m.tickets[id].Mode == mode {
			l = append(l, m.tickets[id])
		}
	}
	slices.SortStableFunc(l, func(a, b queue.Ticket) int {
		switch {
		case a.Since < b.Since:
			return -1
		case a.Since > b.Since:
			return 1
		}
		return 0
	})
	return l
}

func (m *model) starts(id uint32) {
	c := m.checks[id]
	delete(m.checks, id)
	m.clearDue(false, id)
	g := &seat.Match{Id: id, Mode: c.mode, Instance: c.instance}
	m.matches[id] = g
	for _, row := range c.rows {
		m.sit(g, row)
	}
	m.instances[c.instance-1].State, m.instances[c.instance-1].Last = pool.Starting, m.now
	m.tell(c.players(), api.KCheckOver, id, 0)
	m.host(c.instance, api.KStart, id, c.mode, g.Team(1), g.Team(2))
}

// sit lets a row sit down.
func (m *model) sit(g *seat.Match, row fill.Row) {
	row.Players = slices.Clone(row.Players)
	g.Rows = append(g.Rows, row)
	for _, player := range row.Players {
		number := 0
		for slices.ContainsFunc(g.Seats, func(s seat.Seat) bool { return s.Number == number }) {
			number++
		}
		g.Seats = append(g.Seats, seat.Seat{Player: player, Team: row.Team, Number: number, State: seat.Waiting})
		slices.SortFunc(g.Seats, func(a, b seat.Seat) int { return a.Number - b.Number })
	}
}

func (m *model) fails(id uint32, reason int, by ...uint32) {
	c := m.checks[id]
	delete(m.checks, id)
	m.clearDue(false, id)
	if x := &m.instances[c.instance-1]; x.State == pool.Held {
		x.State, x.Match = pool.Free, 0
	}
	m.tell(c.players(), api.KCheckOver, id, reason)
	for _, player := range c.players() {
		if slices.Contains(by, player) {
			m.penalise(player, reason)
		}
	}
	for _, t := range c.tickets {
		again := len(m.line(t.Mode)) < 16
		for _, player := range t.Players {
			again = again && m.where(player) != 0 && !slices.Contains(by, player)
		}
		if again {
			m.tickets[t.Id] = t
			m.tell(t.Players, api.KQueued, t.Mode)
		} else {
			m.tell(t.Players, api.KUnqueued, t.Mode)
		}
	}
}

func (m *model) penalise(player uint32, reason int) {
	p := m.players[player]
	p.mark = p.mark.Hit(m.now)
	m.tell([]uint32{player}, api.KPenalised, reason, p.mark.Level, p.mark.Left(m.now))
}

func (m *model) token(player uint32, till int64) {
	s, g := m.seatOf(player)
	nonce := m.drawn + m.made
	for nonce == 0 || m.tokens[nonce].Nonce != 0 {
		nonce++
	}
	m.made++
	m.tokens[nonce] = ledger.Entry{Nonce: nonce, Owner: player, What: g.Id, Expiry: till}
	s.Until, s.Nonce = till, nonce
	m.tell([]uint32{player}, api.KSeat, g.Id, g.Instance, s.Team, s.Number, till, fmt.Sprint("#", nonce))
}

func (m *model) void(id uint32) {
	if m.checks[id] != nil {
		m.fails(id, 3)
	} else if m.matches[id] != nil {
		m.over(id, 3)
	}
}

func (m *model) over(id uint32, result int) {
	g := m.matches[id]
	delete(m.matches, id)
	for _, s := range g.Seats {
		delete(m.tokens, s.Nonce)
		m.clearDue(true, s.Player)
	}
	for _, s := range g.Seats {
		m.tell([]uint32{s.Player}, api.KOver, id, result, m.players[s.Player].rating)
	}
}

func (m *model) report(id uint32, msg verb.Msg) {
	if id < 1 || int(id) > len(m.instances) {
		return
	}
	_, e := verb.Encode(msg)
	switch {
	case e != api.OK:
	case msg.Kind < api.KHello || msg.Kind > api.KFreed:
		e = api.ErrKind
	default:
		e = m.take(id, &m.instances[id-1], msg)
	}
	if e != api.OK {
		m.host(id, api.KRefused, msg.Kind&255, int(e))
	}
}

func (m *model) take(id uint32, x *pool.Instance, msg verb.Msg) api.Errno {
	needs := map[int]int{api.KUp: pool.Starting, api.KCome: pool.Live, api.KLeft: pool.Live, api.KResult: pool.Live, api.KFreed: pool.Draining}
	if need, is := needs[msg.Kind]; is && x.State != need || msg.Kind == api.KBeat && x.State == pool.Down {
		return api.ErrState
	}
	switch msg.Kind {
	case api.KHello:
		match := x.Match
		*x = pool.Instance{State: pool.Free, Last: m.now}
		m.void(match)
	case api.KBeat:
		if x.State != pool.Starting {
			x.Last = m.now
		}
	case api.KFreed:
		x.State, x.Last = pool.Free, m.now
	case api.KUp:
		x.State, x.Last = pool.Live, m.now
		m.admit(m.matches[x.Match].Seats...)
	case api.KCome:
		t, e := pass.OpenToken(key, msg.S[0])
		entry, there := m.tokens[t.Nonce]
		switch {
		case e != api.OK:
			return e
		case uint32(t.Instance) != id || t.Match != x.Match:
			return api.ErrWrong
		case !there:
			return api.ErrMissing
		case entry.Owner != t.Player || entry.What != t.Match:
			return api.ErrWrong
		}
		delete(m.tokens, t.Nonce)
		s, _ := m.seatOf(t.Player)
		s.State, s.Until, s.Nonce = seat.In, 0, 0
		m.clearDue(true, t.Player)
		m.host(id, api.KJoined, t.Match, t.Player)
		m.tell([]uint32{t.Player}, api.KLive, t.Match)
	case api.KLeft:
		player := uint32(msg.N[0])
		s, g := m.seatOf(player)
		if s == nil || g.Id != x.Match || s.State != seat.In {
			return api.ErrMissing
		}
		s.State, s.Until, s.Nonce = seat.Away, m.later(m.set.Grace), 0
		m.setDue(true, player, s.Until)
	case api.KResult:
		return m.result(id, x, uint32(msg.N[0]), int(msg.N[1]))
	}
	return api.OK
}

// admit gives the players of some seats their tokens.
func (m *model) admit(seats ...seat.Seat) {
	for _, s := range slices.Clone(seats) {
		m.token(s.Player, m.later(m.set.TokenLife))
		m.setDue(true, s.Player, m.later(m.set.TokenLife))
	}
}

func (m *model) result(id uint32, x *pool.Instance, match uint32, result int) api.Errno {
	g := m.matches[match]
	switch {
	case g == nil:
		return api.ErrMissing
	case g.Instance != id:
		return api.ErrWrong
	case result > 2:
		return api.ErrRange
	}
	var teams [2][]uint32
	var ratings [2][]int
	for _, s := range g.Seats {
		if s.State != seat.Waiting {
			teams[s.Team-1] = append(teams[s.Team-1], s.Player)
			ratings[s.Team-1] = append(ratings[s.Team-1], m.players[s.Player].rating)
		}
	}
	if len(teams[0]) > 0 && len(teams[1]) > 0 {
		first, second, _ := elo.Update(ratings[0], ratings[1], result)
		for i, player := range slices.Concat(teams[0], teams[1]) {
			m.players[player].rating = slices.Concat(first, second)[i]
		}
	}
	x.State, x.Match = pool.Draining, 0
	m.over(match, result)
	return api.OK
}

func (m *model) tick(some int64) {
	m.now = m.later(max(some, 0))
	for _, l := range []map[uint64]ledger.Entry{m.logins, m.tokens} {
		maps.DeleteFunc(l, func(_ uint64, e ledger.Entry) bool { return m.now > e.Expiry })
	}
	for _, conn := range rising(m.conns) {
		if c := m.conns[conn]; m.now >= add(c.touched, m.set.Idle) {
			m.conn(conn, api.KBye, 9)
			m.close(conn)
		}
	}
	for i := range m.instances {
		if x := &m.instances[i]; x.State != pool.Down && m.now >= add(x.Last, m.set.Beat) {
			match := x.Match
			x.State, x.Match = pool.Down, 0
			m.void(match)
		}
	}
	for m.meet() {
	}
	for _, id := range rising(m.matches) {
		for m.fill(m.matches[id]) {
		}
	}
	for mode := range m.set.Modes {
		for m.find(mode) {
		}
	}
}

func add(now, some int64) int64 {
	if now > math.MaxInt64-some {
		return math.MaxInt64
	}
	return now + some
}

func (m *model) meet() bool {
	first := -1
	for i, d := range m.due {
		if d.at <= m.now && (first < 0 || d.at < m.due[first].at) {
			first = i
		}
	}
	if first < 0 {
		return false
	}
	d := m.due[first]
	m.due = slices.Delete(m.due, first, first+1)
	if !d.seat {
		c := m.checks[d.id]
		m.fails(d.id, 2, slices.DeleteFunc(c.players(), func(player uint32) bool { return slices.Contains(c.yes, player) })...)
		return true
	}
	s, g := m.seatOf(d.id)
	delete(m.tokens, s.Nonce)
	reason := map[int]int{seat.Waiting: 3, seat.Away: 4}[s.State]
	g.Seats = slices.DeleteFunc(g.Seats, func(s seat.Seat) bool { return s.Player == d.id })
	for i := range g.Rows {
		g.Rows[i].Players = slices.DeleteFunc(g.Rows[i].Players, func(player uint32) bool { return player == d.id })
	}
	g.Rows = slices.DeleteFunc(g.Rows, func(r fill.Row) bool { return len(r.Players) == 0 })
	m.penalise(d.id, reason)
	m.host(g.Instance, api.KLost, g.Id, d.id)
	if len(g.Seats) == 0 {
		delete(m.matches, g.Id)
		x := &m.instances[g.Instance-1]
		x.State, x.Match = pool.Draining, 0
		m.host(g.Instance, api.KDrain, g.Id)
	}
	return true
}

func (m *model) row(team int, t queue.Ticket) fill.Row {
	return fill.Row{Team: team, Players: t.Players, Rating: t.Rating, Window: m.set.Modes[t.Mode].Window(m.now - t.Since)}
}

func (m *model) fill(g *seat.Match) bool {
	if m.instances[g.Instance-1].State != pool.Live {
		return false
	}
	l := m.line(g.Mode)
	place, team, is := fill.Find(m.set.Modes[g.Mode], m.now, l, g.Rows...)
	if !is {
		return false
	}
	t := l[place]
	delete(m.tickets, t.Id)
	m.sit(g, m.row(team, t))
	for _, player := range t.Players {
		s, _ := m.seatOf(player)
		m.admit(*s)
	}
	m.host(g.Instance, api.KFilled, g.Id, team, t.Players)
	return true
}

func (m *model) find(mode int) bool {
	free := slices.IndexFunc(m.instances, func(x pool.Instance) bool { return x.State == pool.Free })
	l := m.line(mode)
	s, is := draft.Find(m.set.Modes[mode], m.now, l)
	if free < 0 || !is {
		return false
	}
	m.lastM++
	c := &mCheck{mode: mode, instance: uint32(free + 1), until: m.later(m.set.Ready)}
	for team, places := range [][]int{s.A, s.B} {
		for _, place := range places {
			delete(m.tickets, l[place].Id)
			c.tickets = append(c.tickets, l[place])
			c.rows = append(c.rows, m.row(team+1, l[place]))
		}
	}
	m.checks[m.lastM] = c
	m.instances[free].State, m.instances[free].Match = pool.Held, m.lastM
	m.setDue(false, m.lastM, c.until)
	m.tell(c.players(), api.KCheck, m.lastM, c.until)
	return true
}

// state is all that is seen of the model.
func (m *model) state() look {
	l := look{Now: m.now, Known: rising(m.players), Conns: rising(m.conns), Instances: make([]pool.Instance, api.MaxInstances)}
	copy(l.Instances, m.instances)
	for _, id := range l.Known {
		x := hall.Seen{Player: id, Conn: m.where(id), Status: m.status(id), Rating: m.players[id].rating, Ticket: m.ticketOf(id), Check: m.checkOf(id), Mark: m.players[id].mark.At(m.now)}
		x.Party, _ = m.partyOf(id)
		if _, g := m.seatOf(id); g != nil {
			x.Match = g.Id
		}
		l.Seen = append(l.Seen, x)
	}
	for mode := range api.MaxModes {
		l.Queues = append(l.Queues, m.line(mode))
	}
	for _, id := range rising(m.matches) {
		l.Matches = append(l.Matches, *m.matches[id])
	}
	return l
}

// sameMatch tells whether two matches are the same.
func sameMatch(a, b seat.Match) bool {
	return a.Id == b.Id && a.Mode == b.Mode && a.Instance == b.Instance && slices.EqualFunc(a.Rows, b.Rows, sameRow) && slices.Equal(a.Seats, b.Seats)
}

// is tells whether two looks are the same.
func (l look) is(other look) bool {
	tickets := func(a, b []queue.Ticket) bool { return slices.EqualFunc(a, b, sameTicket) }
	return l.Now == other.Now && slices.Equal(l.Known, other.Known) && slices.Equal(l.Seen, other.Seen) && slices.Equal(l.Conns, other.Conns) &&
		slices.EqualFunc(l.Queues, other.Queues, tickets) && slices.EqualFunc(l.Matches, other.Matches, sameMatch) && slices.Equal(l.Instances, other.Instances)
}

// event is something that is done to a hall.
type event struct {
	what string
	id   uint32
	n    int64
	msg  verb.Msg
}

// apply does an event to a hall, and is what it answers.
func (p *play) apply(v event) string {
	p.Helper()
	switch v.what {
	case "open":
		return fmt.Sprint("error ", p.Open(v.id))
	case "issue":
		_, e := p.Issue(v.id, uint64(v.n))
		return fmt.Sprint("error ", e)
	case "draw":
		p.Draw(uint64(v.n))
	case "close":
		return p.told(p.Close(v.id))
	case "tick":
		return p.told(p.Tick(v.n))
	case "report":
		return p.told(p.Report(v.id, v.msg))
	case "request":
		return p.told(p.Request(v.id, v.msg))
	}
	return ""
}

// apply does an event to the model, likewise.
func (m *model) apply(v event) string {
	switch v.what {
	case "open":
		return fmt.Sprint("error ", m.open(v.id))
	case "issue":
		return fmt.Sprint("error ", m.issue(v.id, uint64(v.n)))
	case "draw":
		m.drawn = uint64(v.n)
	case "close":
		m.close(v.id)
	case "tick":
		m.tick(v.n)
	case "report":
		m.report(v.id, v.msg)
	case "request":
		m.request(v.id, v.msg)
	}
	return m.end()
}

// chance makes events by chance, such as may well happen behind what has happened to a play and a model.
type chance struct {
	*play
	*rand.Rand
	m *model
}

// chanceOf is one by a seed.
func chanceOf(t *testing.T, seed int) *chance {
	r := rand.New(rand.NewSource(int64(seed)))
	set := chanceConfig(r)
	return &chance{play: with(t, set), Rand: r, m: newModel(set)}
}

// chanceConfig is a right config, in which much happens.
func chanceConfig(r *rand.Rand) plan.Config {
	l := make([]plan.Mode, 1+r.Intn(3))
	for i := range l {
		base := r.Intn(60)
		l[i] = plan.Mode{K: 1 + r.Intn(3), Base: base, Step: r.Intn(20), Cap: base + r.Intn(100), Every: int64(1 + r.Intn(5))}
	}
	c := plan.Usual(l...)
	c.Conns, c.Players, c.Parties, c.Instances = 6+r.Intn(8), 5+r.Intn(8), 1+r.Intn(4), r.Intn(4)+min(1, r.Intn(9))
	c.Times = plan.Times{
		Idle:       int64(10 + r.Intn(60)),
		TicketLife: int64(1 + r.Intn(20)),
		TokenLife:  int64(1 + r.Intn(20)),
		Ready:      int64(1 + r.Intn(12)),
		Grace:      int64(1 + r.Intn(15)),
		Beat:       int64(5 + r.Intn(60)),
	}
	return c
}

// player is one of those that there may be, or nearly so.
func (c *chance) player() uint32 { return uint32(c.Intn(c.m.set.Players + 2)) }

// message is one of some kinds, or, seldom, of any.
func (c *chance) message(first, last int) verb.Msg {
	kind := first + c.Intn(last-first+1)
	if c.Intn(50) == 0 {
		kind = c.Intn(300) - 20
	}
	m := fields(kind)
	for i := range m.N {
		m.N[i] = uint64(c.player())
		if kind == api.KJoin || kind == api.KRefuse {
			m.N[i] = uint64(c.Intn(c.m.set.Parties + 1))
		}
	}
	if c.Intn(100) == 0 {
		m = verb.Make(kind, math.MaxUint64)
	}
	return m
}

// next is what is done next.
func (c *chance) next() []event {
	conn := uint32(c.Intn(c.m.set.Conns + 2))
	// Who is logged in says more than who is not.
	if l := rising(c.m.conns); len(l) > 0 && c.Intn(20) > 0 {
		conn = l[c.Intn(len(l))]
	}
	ask := func(m verb.Msg) []event { return []event{{what: "request", id: conn, msg: m}} }
	here := c.m.conns[conn]
	if here != nil && here.player == 0 && c.Intn(4) > 0 {
		return c.enters(conn)
	}
	if here != nil && c.m.checkOf(here.player) != 0 && c.Intn(3) > 0 {
		return ask(verb.Make(api.KAccept + c.Intn(12)/11))
	}
	switch n := c.Intn(100); {
	case n < 4:
		return []event{{what: "open", id: conn + 1}}
	case n < 5 && c.Intn(2) == 0:
		return []event{{what: "close", id: conn}}
	case n < 6:
		return c.enters(conn)
	case n < 14:
		return []event{{what: "tick", n: c.ticks()}}
	case n < 44:
		return c.reports(uint32(c.Intn(c.m.set.Instances + 2)))
	case n < 45:
		return []event{{what: "draw", n: int64(c.Intn(30)) - 10}}
	case n < 60:
		return ask(verb.Make(api.KQueue, uint64(c.Intn(9*len(c.m.set.Modes)+1)/9)))
	case n < 73:
		return ask(c.message(api.KFriendAsk, api.KUnblock))
	case n < 86:
		return ask(c.message(api.KInvite, api.KLead))
	}
	return ask(c.message(api.KPing, api.KMatch))
}

// ticks are some: few most often.
func (c *chance) ticks() int64 {
	switch n := c.Intn(3000); {
	case n == 0:
		return math.MaxInt64
	case n < 30:
		return int64(c.Intn(12000))
	}
	return int64(c.Intn(4) - c.Intn(2))
}

// enters lets somebody log in, or try so.
func (c *chance) enters(conn uint32) []event {
	player := c.player()
	for try := 0; try < 4 && c.m.where(player) != 0; try++ {
		player = c.player()
	}
	c.nonce++
	t := pass.Ticket{Player: player, Stamp: pass.Stamp{Expiry: c.m.later(c.m.set.TicketLife), Nonce: c.nonce - uint64(c.Intn(2)*c.Intn(2))}}
	issue := event{what: "issue", id: player, n: int64(t.Nonce)}
	s := t.Seal(key)
	switch c.Intn(20) {
	case 0:
		t.Expiry, t.Nonce = c.Now()+int64(c.Intn(3)-1), c.nonce-uint64(c.Intn(9))
		s = t.Seal(key)
	case 1:
		s += "a"
	}
	return []event{issue, {what: "request", id: conn, msg: verb.Make(api.KLogin).With(s)}}
}

// reports lets an instance's host tell something.
func (c *chance) reports(id uint32) []event {
	m := c.message(api.KHello, api.KFreed)
	x, _ := c.Instance(id)
	g, live := c.Match(x.Match)
	switch {
	case x.State == pool.Starting && c.Intn(3) > 0:
		m = verb.Make(api.KUp)
	case x.State == pool.Draining && c.Intn(3) > 0:
		m = verb.Make(api.KFreed)
	case m.Kind == api.KHello && x.State != pool.Down && c.Intn(4) > 0 || m.Kind == api.KResult && c.Intn(2) > 0:
		m = verb.Make(api.KBeat)
	case m.Kind == api.KResult:
		m = verb.Make(api.KResult, uint64(x.Match)+uint64(c.Intn(9)/8), uint64(c.Intn(13)/4))
	case m.Kind == api.KCome || live && c.Intn(2) == 0:
		m = c.comes(g)
	}
	return []event{{what: "report", id: id, msg: m}}
}

// comes is a report that one of a match has come or left.
func (c *chance) comes(g seat.Match) verb.Msg {
	player := c.player()
	if len(g.Seats) > 0 && c.Intn(8) > 0 {
		player = g.Seats[c.Intn(len(g.Seats))].Player
	}
	if c.Intn(3) == 0 {
		return verb.Make(api.KLeft, uint64(player))
	}
	l := append([]string{""}, c.tokens[player]...)
	s := l[len(l)-1]
	if c.Intn(6) == 0 {
		s = l[c.Intn(len(l))]
	}
	return verb.Make(api.KCome).With(s)
}

// TestByChance lets a hall and the model do the same, and see the same.
func TestByChance(t *testing.T) {
	count := map[string]int{}
	for seed := range 100 {
		c := chanceOf(t, seed)
		heard := map[uint32]map[uint32]int{}
		for step := range 1000 {
			for _, v := range c.next() {
				got, want := c.apply(v), c.m.apply(v)
				if got != want {
					t.Fatalf("seed %d, step %d: %v\n got: %s\nwant: %s", seed, step, v, got, want)
				}
				if got, want := c.state(), c.m.state(); !got.is(want) {
					t.Fatalf("seed %d, step %d: behind %v\n got: %v\nwant: %v", seed, step, v, got, want)
				}
				c.holds(v)
				c.hears(heard, got)
				if t.Failed() {
					t.Fatalf("seed %d, step %d: %v", seed, step, v)
				}
				for _, part := range parts(got) {
					words := strings.Fields(strings.TrimPrefix(part, "host "))
					count[words[1]]++
				}
			}
		}
	}
	for kind := range 256 {
		if side := verb.Side(kind); (side == 2 || side == 3) && count[verb.Name(kind)] == 0 {
			t.Errorf("%s was never told", verb.Name(kind))
		}
	}
}

// holds fails unless what the document promises of each state holds: P3 to P5.
func (c *chance) holds(v event) {
	c.Helper()
	for _, player := range c.Known() {
		x, _ := c.See(player)
		places := 0
		for _, id := range []uint32{x.Ticket, x.Check, x.Match} {
			if id != 0 {
				places++
			}
		}
		if places > 1 || places == 0 && x.Status > api.Idle {
			c.Errorf("P3: %v", x)
		}
	}
	for _, id := range c.Matches() {
		g, _ := c.Match(id)
		mode := c.m.set.Modes[g.Mode]
		if len(g.Team(1)) > mode.K || len(g.Team(2)) > mode.K {
			c.Errorf("P4: %v", g)
		}
		for _, a := range g.Rows {
			for _, b := range g.Rows {
				if a.Rating-b.Rating > min(a.Window, b.Window) {
					c.Errorf("P4: %v", g)
				}
			}
		}
		x, _ := c.Instance(g.Instance)
		if _, _, is := fill.Find(mode, c.Now(), c.Queue(g.Mode), g.Rows...); v.what == "tick" && x.State == pool.Live && is {
			c.Errorf("P5: %v", g)
		}
	}
	free := slices.ContainsFunc(c.m.instances, func(x pool.Instance) bool { return x.State == pool.Free })
	for number, mode := range c.m.set.Modes {
		if _, is := draft.Find(mode, c.Now(), c.Queue(number)); v.what == "tick" && free && is {
			c.Errorf("P5: %v", c.Queue(number))
		}
	}
}

// hears fails unless P12 holds: whoever is logged in, and was told of a friend, was told last what is seen of that friend now.
func (c *chance) hears(heard map[uint32]map[uint32]int, told string) {
	c.Helper()
	for _, part := range parts(told) {
		words := strings.Fields(part)
		if !slices.Contains([]string{"presence", "friend-now", "status-is"}, words[1]) {
			continue
		}
		n := c.numbers([]string{words[0], words[2], words[3]})
		player := c.m.conns[uint32(n[0])].player
		if heard[player] == nil {
			heard[player] = map[uint32]int{}
		}
		heard[player][uint32(n[1])] = int(n[2])
	}
	for player, of := range heard {
		if c.m.where(player) == 0 {
			delete(heard, player)
			continue
		}
		for other, seen := range of {
			if !c.m.players[player].friends[other] {
				delete(of, other)
			} else if seen != c.m.seen(other) {
				c.Errorf("P12: %d was told of %d %d, not %d", player, other, seen, c.m.seen(other))
			}
		}
	}
}
