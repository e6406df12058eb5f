package server_test

import (
	"bytes"
	"fmt"
	"maps"
	"math"
	"math/rand"
	"reflect"
	"slices"
	"testing"

	"tiltyard/api"
	"tiltyard/hall"
	"tiltyard/mac"
	"tiltyard/pass"
	"tiltyard/plan"
	"tiltyard/pool"
	"tiltyard/queue"
	"tiltyard/seat"
	"tiltyard/server"
	"tiltyard/timer"
	"tiltyard/verb"
)

// model is a server once more, as the chapter tells of it, beside a hall of its own: bytes lie in plain lists, and what is sent is
// told at the end.
type model struct {
	set   plan.Config
	h     *hall.Hall
	conns map[uint32]*mConn
	hosts map[uint32][]byte
	sent  []server.Send
	// wrong is whether a length was, in the call that is the last one.
	wrong bool
	// seen is how often what happened.
	seen map[string]int
}

type mConn struct {
	held          []byte
	flying, asked int
}

func newModel(t *testing.T, c plan.Config, seen map[string]int) *model {
	h, e := hall.New(c)
	if e != api.OK {
		t.Fatal(e)
	}
	return &model{set: c, h: h, conns: map[uint32]*mConn{}, hosts: map[uint32][]byte{}, seen: seen}
}

// whole takes the first frame of bytes, if it is whole. Of a length that is wrong it tells so.
func whole(held []byte) (frame, rest []byte, is, wrong bool) {
	if len(held) < 2 {
		return nil, held, false, false
	}
	n := int(held[0])*256 + int(held[1])
	if n == 0 || n > 1024 {
		return nil, nil, false, true
	}
	if len(held) < 2+n {
		return nil, held, false, false
	}
	return held[2 : 2+n], held[2+n:], true, false
}

// goes lets bytes go somewhere, or a connection be closed.
func (m *model) goes(host bool, to uint32, b []byte, closed bool) {
	i := slices.IndexFunc(m.sent, func(x server.Send) bool { return x.Host == host && x.To == to })
	if i < 0 {
		i = len(m.sent)
		m.sent = append(m.sent, server.Send{Host: host, To: to})
	}
	m.sent[i].Bytes = append(m.sent[i].Bytes, b...)
	m.sent[i].Close = m.sent[i].Close || closed
}

// send sends outs; those that come of a connection that is closed wait behind them.
func (m *model) send(outs []hall.Out) {
	for i := 0; i < len(outs); i++ {
		o := outs[i]
		in, e := verb.Encode(o.Msg)
		if e != api.OK {
			panic("a message of a hall that can't be encoded")
		}
		b := append([]byte{byte(len(in) / 256), byte(len(in) % 256)}, in...)
		c := m.conns[o.To]
		switch {
		case o.Host:
			m.goes(true, o.To, b, false)
		case c == nil:
			m.seen["to nobody"]++
		case c.flying+len(b) > m.set.Out:
			m.seen["full"]++
			delete(m.conns, o.To)
			m.goes(false, o.To, nil, true)
			more := m.h.Close(o.To)
			if len(more) > 0 {
				m.seen["full, and told"]++
			}
			outs = slices.Concat(outs, more)
		default:
			c.flying += len(b)
			m.goes(false, o.To, b, false)
		}
	}
	for _, conn := range slices.Sorted(maps.Keys(m.conns)) {
		if !slices.Contains(m.h.Conns(), conn) {
			m.seen["closed by the hall"]++
			m.goes(false, conn, nil, true)
			delete(m.conns, conn)
		}
	}
}

func (m *model) tell(host bool, to uint32, kind byte, e api.Errno) {
	as := map[bool]int{true: api.KRefused, false: api.KError}[host]
	m.send([]hall.Out{{Host: host, To: to, Msg: verb.Make(as, uint64(kind), uint64(e))}})
}

func (m *model) shut(conn uint32) api.Errno {
	if m.conns[conn] == nil {
		return api.ErrMissing
	}
	delete(m.conns, conn)
	m.send(m.h.Close(conn))
	return api.OK
}

// cut tells a connection an error, and closes it.
func (m *model) cut(conn uint32, kind byte, e api.Errno) {
	m.seen["malformed"]++
	m.tell(false, conn, kind, e)
	if m.shut(conn) == api.OK {
		m.goes(false, conn, nil, true)
	}
}

func (m *model) feed(conn uint32, b []byte) api.Errno {
	c := m.conns[conn]
	if c == nil {
		return api.ErrMissing
	}
	c.held = slices.Concat(c.held, b)
	for m.conns[conn] == c {
		f, rest, is, wrong := whole(c.held)
		c.held = rest
		if wrong {
			m.cut(conn, 0, api.ErrFrame)
		}
		if !is {
			break
		}
		msg, e := verb.Decode(f)
		if e != api.OK {
			m.cut(conn, f[0], e)
		} else if c.asked >= m.set.Rate {
			m.seen["too many"]++
			m.tell(false, conn, f[0], api.ErrRate)
		} else {
			c.asked++
			m.send(m.h.Request(conn, msg))
		}
	}
	return api.OK
}

func (m *model) hostFeed(id uint32, b []byte) api.Errno {
	if id < 1 || int(id) > m.set.Instances {
		return api.ErrMissing
	}
	held := slices.Concat(m.hosts[id], b)
	for {
		f, rest, is, wrong := whole(held)
		held = rest
		if wrong {
			m.wrong = true
			m.seen["a host's length"]++
			m.tell(true, id, 0, api.ErrFrame)
		}
		if !is {
			break
		}
		if msg, e := verb.Decode(f); e != api.OK {
			m.seen["a host's message"]++
			m.tell(true, id, f[0], e)
		} else {
			m.send(m.h.Report(id, msg))
		}
	}
	m.hosts[id] = held
	return api.OK
}

// event is what happens to a server: an open, shut, feed, host, gone, tick, issue or draw.
type event struct {
	what string
	id   uint32
	n    int64
	b    []byte
}

func (v event) String() string { return fmt.Sprintf("%s %d %d %v", v.what, v.id, v.n, v.b) }

// answer is what is answered to an event.
type answer struct {
	sends []server.Send
	text  string
	err   api.Errno
}

func (a answer) is(b answer) bool {
	return a.text == b.text && a.err == b.err && slices.EqualFunc(a.sends, b.sends, func(x, y server.Send) bool {
		return x.Host == y.Host && x.To == y.To && x.Close == y.Close && bytes.Equal(x.Bytes, y.Bytes)
	})
}

// apply lets an event happen to the model.
func (m *model) apply(v event) answer {
	m.sent, m.wrong = nil, false
	var a answer
	switch v.what {
	case "open":
		a.err = m.h.Open(v.id)
		if a.err == api.OK {
			m.conns[v.id] = &mConn{}
		}
	case "shut":
		a.err = m.shut(v.id)
	case "feed":
		a.err = m.feed(v.id, v.b)
	case "host":
		a.err = m.hostFeed(v.id, v.b)
	case "gone":
		if c := m.conns[v.id]; c != nil {
			c.flying -= min(max(int(v.n), 0), c.flying)
		} else {
			a.err = api.ErrMissing
		}
	case "tick":
		for _, c := range m.conns {
			c.asked = 0
		}
		m.send(m.h.Tick(v.n))
	case "issue":
		a.text, a.err = m.h.Issue(v.id, uint64(v.n))
	case "draw":
		m.h.Draw(uint64(v.n))
	}
	slices.SortFunc(m.sent, func(a, b server.Send) int {
		if a.Host != b.Host {
			return map[bool]int{false: -1, true: 1}[a.Host]
		}
		return int(a.To) - int(b.To)
	})
	a.sends = m.sent
	return a
}

// apply lets an event happen to a server.
func apply(s *server.Server, v event) answer {
	var a answer
	switch v.what {
	case "open":
		a.err = s.Open(v.id)
	case "shut":
		a.sends, a.err = s.Shut(v.id)
	case "feed":
		a.sends, a.err = s.Feed(v.id, v.b)
	case "host":
		a.sends, a.err = s.HostFeed(v.id, v.b)
	case "gone":
		a.err = s.Gone(v.id, int(v.n))
	case "tick":
		a.sends = s.Tick(v.n)
	case "issue":
		a.text, a.err = s.Issue(v.id, uint64(v.n))
	case "draw":
		s.Draw(uint64(v.n))
	}
	return a
}

// look is all that can be seen of a server, or of a hall.
type look struct {
	Now       int64
	Known     []uint32
	Seen      []hall.Seen
	Conns     []uint32
	Queues    [][]queue.Ticket
	Matches   []seat.Match
	Instances []pool.Instance
}

// looked is what has the calls by which things can be seen.
type looked interface {
	Now() int64
	Known() []uint32
	See(uint32) (hall.Seen, bool)
	Conns() []uint32
	Queue(int) []queue.Ticket
	Matches() []uint32
	Match(uint32) (seat.Match, bool)
	Instance(uint32) (pool.Instance, bool)
}

func lookAt(x looked) look {
	l := look{Now: x.Now(), Known: x.Known(), Conns: x.Conns()}
	for player := range uint32(12) {
		seen, _ := x.See(player)
		l.Seen = append(l.Seen, seen)
	}
	for mode := -1; mode < 5; mode++ {
		l.Queues = append(l.Queues, x.Queue(mode))
	}
	for _, id := range append(x.Matches(), 0, 1) {
		match, _ := x.Match(id)
		l.Matches = append(l.Matches, match)
	}
	for id := range uint32(7) {
		instance, _ := x.Instance(id)
		l.Instances = append(l.Instances, instance)
	}
	return l
}

// chance makes events, as far as it goes such as clients and hosts that know the game, and keeps what they would.
type chance struct {
	*rand.Rand
	m       *model
	tokens  map[uint32]string
	tickets []string
	nonce   int64
	// tight is whether connections are filled up.
	tight bool
}

// chanceConfig is a config by chance in which little room is.
func chanceConfig(r *rand.Rand) plan.Config {
	c := plan.Usual(plan.Mode{K: 1, Base: 10000, Cap: 10000, Every: 1}, plan.Mode{K: 2, Base: 100, Step: 50, Cap: 10000, Every: 2})
	c.Conns, c.Players, c.Parties, c.Instances = 3+r.Intn(6), 4+r.Intn(5), 1+r.Intn(4), r.Intn(4)
	c.Idle, c.Beat, c.Ready, c.TokenLife, c.Grace = int64(20+r.Intn(60)), int64(10+r.Intn(60)), 20, int64(3+r.Intn(10)), int64(3+r.Intn(10))
	c.Rate, c.Out = 2+r.Intn(40), 1026+r.Intn(300)
	return c
}

// playerAt is who is logged in at a connection.
func (c *chance) playerAt(conn uint32) (hall.Seen, bool) {
	for _, player := range c.m.h.Known() {
		if x, _ := c.m.h.See(player); x.Conn == conn {
			return x, true
		}
	}
	return hall.Seen{}, false
}

// key is the usual config's.
var key = mac.Make([]byte("tilt"))

// frame1 is a message's bytes behind their length.
func frame1(msg verb.Msg) []byte {
	b, _ := verb.Encode(msg)
	return append([]byte{byte(len(b) / 256), byte(len(b) % 256)}, b...)
}

// pick is one of some.
func pick[V any](c *chance, l ...V) V { return l[c.Intn(len(l))] }

// malformed are bytes that are no message, or no frame.
func (c *chance) malformed() []byte {
	return pick(c, []byte{0, 0}, []byte{4, 1}, []byte{255, 255}, []byte{0, 1, 0}, []byte{0, 1, 17}, []byte{0, 2, 26, 26}, []byte{0, 3, 1, 9, 9}, []byte{0, 1, byte(c.Intn(256))})
}

// asks is what a client may ask for.
func (c *chance) asks(conn uint32) verb.Msg {
	x, is := c.playerAt(conn)
	other := uint64(c.Intn(c.m.set.Players + 2))
	switch {
	case !is && c.Intn(2) == 0:
		return verb.Make(api.KLogin).With(pick(c, c.tickets[max(0, len(c.tickets)-4):]...))
	case x.Check != 0 && c.Intn(3) > 0:
		return verb.Make(pick(c, api.KAccept, api.KAccept, api.KAccept, api.KDecline))
	case x.Status == api.Idle && c.Intn(2) == 0:
		return verb.Make(api.KQueue, uint64(c.Intn(8)/5))
	}
	kind := pick(c, api.KPing, api.KFriendAsk, api.KFriendAsk, api.KFriendAccept, api.KFriendAccept, api.KFriendRemove, api.KBlock, api.KUnblock,
		api.KFriends, api.KInvite, api.KJoin, api.KLeave, api.KKick, api.KParty, api.KCancel, api.KToken, api.KRating, api.KPenalty, api.KStatus,
		api.KLogout, api.KTime, api.KMatch, api.KOk, api.KHello)
	shape, _ := verb.Shape(kind)
	switch {
	case kind == api.KJoin:
		return verb.Make(kind, uint64(1+c.Intn(c.m.set.Parties)))
	case len(shape) == 1:
		return verb.Make(kind, other)
	}
	return verb.Make(kind)
}

// says is what a host may say.
func (c *chance) says(id uint32) verb.Msg {
	x, _ := c.m.h.Instance(id)
	if c.Intn(6) == 0 {
		return verb.Make(pick(c, api.KHello, api.KBeat, api.KUp, api.KFreed, api.KTime))
	}
	match, is := c.m.h.Match(x.Match)
	switch {
	case x.State == pool.Down:
		return verb.Make(api.KHello)
	case x.State == pool.Starting:
		return verb.Make(api.KUp)
	case x.State == pool.Draining:
		return verb.Make(api.KFreed)
	case x.State == pool.Live && is && len(match.Seats) > 0:
		who := pick(c, match.Seats...).Player
		return pick(c, verb.Make(api.KCome).With(c.tokens[who]), verb.Make(api.KCome).With(c.tokens[who]), verb.Make(api.KLeft, uint64(who)),
			verb.Make(api.KResult, uint64(match.Id), uint64(c.Intn(4))), verb.Make(api.KBeat))
	}
	return verb.Make(api.KBeat)
}

// stream is some messages' bytes, cut somewhere, with now and then what is none.
func (c *chance) stream(next func() verb.Msg) []byte {
	var b []byte
	for range 1 + c.Intn(4) {
		if c.Intn(300) == 0 {
			b = append(b, c.malformed()...)
		} else {
			b = append(b, frame1(next())...)
		}
	}
	return b
}

// next is what happens next: often the rest of what was cut stands behind it.
func (c *chance) next() []event {
	conn := uint32(c.Intn(c.m.set.Conns + 2))
	if l := c.m.h.Conns(); len(l) > 0 && c.Intn(8) > 0 {
		conn = pick(c, l...)
		if _, is := c.playerAt(conn); !is && c.Intn(4) > 0 {
			return c.enters(conn)
		}
	}
	switch n := c.Intn(60); {
	case n < 2 && c.tight:
		return []event{c.fills(conn)}
	case n < 6:
		return []event{{what: "open", id: uint32(c.Intn(c.m.set.Conns + 3))}}
	case n < 7:
		return []event{{what: pick(c, "shut", "draw"), id: conn, n: int64(c.Intn(1000))}}
	case n < 13:
		return []event{{what: "tick", n: int64(pick(c, -1, 0, 0, 1, 1, 1, 2, 2, 5, 9))}}
	case n < 14:
		return []event{{what: "gone", id: conn, n: int64(pick(c, -1, 0, 5, 50, 300, 2000, math.MaxInt32))}}
	case n < 16:
		c.nonce++
		return []event{{what: "issue", id: uint32(c.Intn(c.m.set.Players + 2)), n: c.nonce}}
	case n < 17:
		return []event{{what: "issue", id: conn, n: c.nonce}}
	case n < 30 && c.m.set.Instances > 0:
		id := uint32(1 + c.Intn(c.m.set.Instances))
		return c.cut(event{what: "host", id: id, b: c.stream(func() verb.Msg { return c.says(id) })})
	case n < 31:
		return c.cut(event{what: "host", id: uint32(c.Intn(20)), b: c.stream(func() verb.Msg { return c.says(1) })})
	}
	return c.cut(event{what: "feed", id: conn, b: c.stream(func() verb.Msg { return c.asks(conn) })})
}

// fills sends as many pings as nearly fill a connection.
func (c *chance) fills(conn uint32) event {
	v := event{what: "feed", id: conn}
	if x := c.m.conns[conn]; x != nil {
		most := max(c.m.set.Rate-x.asked, 0)
		for flying := x.flying; flying+20 < c.m.set.Out; {
			v.b = append(v.b, 0, 5, api.KPing, 0, 0, 0, 1)
			flying += 5
			if most > 0 {
				most--
				flying += 2
			}
		}
	}
	return v
}

// enters lets one who is not logged in, if there is anybody, log in at a connection.
func (c *chance) enters(conn uint32) []event {
	player := uint32(1 + c.Intn(c.m.set.Players))
	for range 5 {
		if x, is := c.m.h.See(player); !is || x.Conn == 0 {
			break
		}
		player = uint32(1 + c.Intn(c.m.set.Players))
	}
	c.nonce++
	ticket := pass.Ticket{Player: player, Stamp: pass.Stamp{Expiry: timer.Add(c.m.h.Now(), c.m.set.TicketLife), Nonce: uint64(c.nonce)}}
	l := append([]event{{what: "issue", id: player, n: c.nonce}}, c.cut(event{what: "feed", id: conn, b: frame1(verb.Make(api.KLogin).With(ticket.Seal(key)))})...)
	if c.tight && c.Intn(2) == 0 {
		l = append(l, c.fills(conn))
	}
	return l
}

// cut is an event of bytes as one, or as two.
func (c *chance) cut(v event) []event {
	if c.Intn(2) == 0 {
		return []event{v}
	}
	at := c.Intn(len(v.b) + 1)
	return []event{{what: v.what, id: v.id, b: v.b[:at]}, {what: v.what, id: v.id, b: v.b[at:]}}
}

// keep keeps what clients would of what was answered.
func (c *chance) keep(t *testing.T, v event, a answer) {
	if v.what == "issue" && a.err == api.OK {
		c.tickets = append(c.tickets, a.text)
	}
	for _, x := range a.sends {
		for _, b := range frames(t, x.Bytes) {
			msg, e := verb.Decode(b)
			if e != api.OK {
				t.Fatalf("what goes to %v can't be decoded: %v", x, b)
			}
			c.m.seen[verb.Name(msg.Kind)]++
			if player, is := c.playerAt(x.To); is && msg.Kind == api.KSeat {
				c.tokens[player.Player] = msg.S[0]
			}
		}
	}
}

// merged is what is answered to all of some pieces of an event.
func merged(all, one answer) answer {
	for _, x := range one.sends {
		i := slices.IndexFunc(all.sends, func(y server.Send) bool { return x.Host == y.Host && x.To == y.To })
		if i < 0 {
			all.sends = append(all.sends, x)
			continue
		}
		all.sends[i].Bytes = append(all.sends[i].Bytes, x.Bytes...)
		all.sends[i].Close = all.sends[i].Close || x.Close
	}
	slices.SortFunc(all.sends, func(a, b server.Send) int {
		if a.Host != b.Host {
			return map[bool]int{false: -1, true: 1}[a.Host]
		}
		return int(a.To) - int(b.To)
	})
	return all
}

// inPieces lets an event happen to a server, its bytes one by one, each in memory that is blotted then, as are those that are answered.
func inPieces(s *server.Server, v event) answer {
	var all answer
	for i, one := range v.b {
		in := append(make([]byte, 0, 8), one)
		v.b = in
		a := apply(s, v)
		if i > 0 && a.err == api.ErrMissing { // it was closed by what came ahead
			break
		}
		all.err = a.err
		for j := range a.sends {
			was := a.sends[j].Bytes
			a.sends[j].Bytes = slices.Clone(was)
			blot(was)
		}
		blot(in)
		all = merged(all, a)
	}
	return all
}

// blot spoils bytes, and those that lie behind them.
func blot(b []byte) {
	for i := range b[:cap(b)] {
		b[:cap(b)][i] = 0xAA
	}
}

// newChance is chance by a seed, beside a model.
func newChance(t *testing.T, seed int64, seen map[string]int) *chance {
	r := rand.New(rand.NewSource(seed))
	m := newModel(t, chanceConfig(r), seen)
	return &chance{Rand: r, m: m, tokens: map[uint32]string{}, tickets: []string{""}, tight: seed%2 == 0}
}

// P26.2, P26.3, P2 and the rules: a server, one whose bytes come one by one, and the model answer the same, and look the same.
func TestByChance(t *testing.T) {
	seen := map[string]int{}
	for seed := range int64(60) {
		c := newChance(t, seed, seen)
		a, b := with(t, c.m.set).Server, with(t, c.m.set).Server
		for range 700 {
			for _, v := range c.next() {
				step(t, fmt.Sprintf("seed %d: %v", seed, v), v, c, a, b)
			}
		}
	}
	for _, what := range []string{"full", "full, and told", "to nobody", "closed by the hall", "malformed", "too many", "a host's length", "a host's message",
		"welcome", "presence", "check", "check-over", "start", "seat", "live", "joined", "lost", "over", "penalised", "bye", "refused"} {
		if seen[what] < 10 {
			t.Errorf("%s: only %d", what, seen[what])
		}
	}
}

// step lets an event happen to the model and to two servers, and tells where they part.
func step(t *testing.T, name string, v event, c *chance, a, b *server.Server) {
	t.Helper()
	in := slices.Clone(v.b)
	want := c.m.apply(v)
	got := apply(a, v)
	if !got.is(want) {
		t.Fatalf("%s\n got %v\nwant %v", name, got, want)
	}
	if !bytes.Equal(in, v.b) {
		t.Fatalf("%s: what was handed in is changed", name)
	}
	other := got
	// What came of a host behind a length that is wrong is lost only as far as it came at once.
	if (v.what == "feed" || v.what == "host") && len(v.b) > 0 && !c.m.wrong {
		other = inPieces(b, v)
	} else {
		other = apply(b, v)
	}
	if !other.is(want) {
		t.Fatalf("%s, in pieces\n got %v\nwant %v", name, other, want)
	}
	c.keep(t, v, got)
	l := lookAt(c.m.h)
	if x, y := lookAt(a), lookAt(b); !reflect.DeepEqual(x, l) || !reflect.DeepEqual(y, l) {
		t.Fatalf("%s: it looks like\n%v, in pieces\n%v, want\n%v", name, x, y, l)
	}
	if !slices.Equal(a.Conns(), slices.Sorted(maps.Keys(c.m.conns))) {
		t.Fatalf("%s: the connections %v", name, a.Conns())
	}
	for conn := range uint32(c.m.set.Conns + 4) {
		flying := 0
		if x := c.m.conns[conn]; x != nil {
			flying = x.flying
		}
		if a.Flying(conn) != flying || b.Flying(conn) != flying || flying > c.m.set.Out {
			t.Fatalf("%s: %d in flight on %d, in pieces %d, want %d", name, a.Flying(conn), conn, b.Flying(conn), flying)
		}
	}
}

// P26.3, P9: bytes that are malformed are to all others as if the connection had been shut there, be there much in flight or little.
func TestMalformedByChance(t *testing.T) {
	tried := 0
	for seed := range int64(200) {
		c := newChance(t, seed, map[string]int{})
		a, b := with(t, c.m.set).Server, with(t, c.m.set).Server
		for range 50 + c.Intn(200) {
			for _, v := range c.next() {
				c.keep(t, v, c.m.apply(v))
				apply(a, v)
				apply(b, v)
			}
		}
		for _, conn := range slices.Sorted(maps.Keys(c.m.conns)) {
			if len(c.m.conns[conn].held) > 0 {
				continue
			}
			tried++
			bad := []byte{0, 1, 0}
			if conn%2 == 0 {
				bad = []byte{0, 0}
			}
			asShut(t, fmt.Sprintf("seed %d: %d", seed, conn), conn, bad, a, b)
			break
		}
	}
	if tried < 100 {
		t.Errorf("only %d", tried)
	}
}

// asShut lets one server's connection be malformed, the other one's be shut, and tells where others see that.
func asShut(t *testing.T, name string, conn uint32, bad []byte, a, b *server.Server) {
	t.Helper()
	x, y := answer{}, answer{}
	x.sends, x.err = a.Feed(conn, bad)
	y.sends, y.err = b.Shut(conn)
	x.sends = slices.DeleteFunc(x.sends, func(s server.Send) bool { return !s.Host && s.To == conn })
	for _, some := range []int64{0, 1, 5, 30} {
		if !x.is(y) {
			t.Fatalf("%s\nmalformed %v\nshut %v", name, x, y)
		}
		if l, m := lookAt(a), lookAt(b); !reflect.DeepEqual(l, m) {
			t.Fatalf("%s\nmalformed %v\nshut %v", name, l, m)
		}
		x, y = answer{sends: a.Tick(some)}, answer{sends: b.Tick(some)}
	}
}
