package hall_test

import (
	"math"
	"reflect"
	"slices"
	"strconv"
	"strings"
	"testing"

	"tiltyard/api"
	"tiltyard/hall"
	"tiltyard/mac"
	"tiltyard/pass"
	"tiltyard/penal"
	"tiltyard/plan"
	"tiltyard/pool"
	"tiltyard/queue"
	"tiltyard/seat"
	"tiltyard/verb"
)

// The calls are just these.
var (
	_ func(plan.Config) (*hall.Hall, api.Errno)            = hall.New
	_ func(*hall.Hall, uint32, uint64) (string, api.Errno) = (*hall.Hall).Issue
	_ func(*hall.Hall, uint64)                             = (*hall.Hall).Draw
	_ func(*hall.Hall, uint32) api.Errno                   = (*hall.Hall).Open
	_ func(*hall.Hall, uint32) []hall.Out                  = (*hall.Hall).Close
	_ func(*hall.Hall, uint32, verb.Msg) []hall.Out        = (*hall.Hall).Request
	_ func(*hall.Hall, uint32, verb.Msg) []hall.Out        = (*hall.Hall).Report
	_ func(*hall.Hall, int64) []hall.Out                   = (*hall.Hall).Tick
	_ func(*hall.Hall) int64                               = (*hall.Hall).Now
	_ func(*hall.Hall) []uint32                            = (*hall.Hall).Known
	_ func(*hall.Hall, uint32) (hall.Seen, bool)           = (*hall.Hall).See
	_ func(*hall.Hall) []uint32                            = (*hall.Hall).Conns
	_ func(*hall.Hall, int) []queue.Ticket                 = (*hall.Hall).Queue
	_ func(*hall.Hall) []uint32                            = (*hall.Hall).Matches
	_ func(*hall.Hall, uint32) (seat.Match, bool)          = (*hall.Hall).Match
	_ func(*hall.Hall, uint32) (pool.Instance, bool)       = (*hall.Hall).Instance
	_                                                      = hall.Out{Host: true, To: 1, Msg: verb.Msg{}}
	_                                                      = hall.Seen{Player: 1, Conn: 2, Status: 3, Rating: 4, Party: 5, Ticket: 6, Check: 7, Match: 8, Mark: penal.Mark{}}
)

const last = 1<<31 - 1

// key is the usual config's.
var key = mac.Make([]byte("tilt"))

// duel, pairs and wide are modes: of one, of two, and of two in which all may meet.
var (
	duel  = plan.Mode{K: 1, Base: 100, Cap: 100, Every: 1}
	pairs = plan.Mode{K: 2, Base: 100, Step: 50, Cap: 300, Every: 10}
	four  = plan.Mode{K: 4, Base: 10000, Cap: 10000, Every: 1}
)

// play is a hall whose players are logged in at the connections of their own numbers, unless a test does otherwise. It keeps the
// tokens that players were told, the last one last.
type play struct {
	*testing.T
	*hall.Hall
	nonce  uint64
	tokens map[uint32][]string
}

// with is a play by a config.
func with(t *testing.T, c plan.Config) *play {
	t.Helper()
	h, e := hall.New(c)
	if e != api.OK {
		t.Fatalf("New: error %d", e)
	}
	return &play{T: t, Hall: h, nonce: 1000, tokens: map[uint32][]string{}}
}

// usual is a play by the usual config and some modes, in which some players are logged in.
func usual(t *testing.T, modes []plan.Mode, players ...uint32) *play {
	t.Helper()
	p := with(t, plan.Usual(modes...))
	p.enter(players...)
	return p
}

// modes are some.
func modes(l ...plan.Mode) []plan.Mode { return l }

// ticket issues a login ticket.
func (p *play) ticket(player uint32) string {
	p.Helper()
	p.nonce++
	s, e := p.Issue(player, p.nonce)
	if e != api.OK {
		p.Fatalf("Issue for %d: error %d", player, e)
	}
	return s
}

// enter lets players log in, each at the connection of the same number.
func (p *play) enter(players ...uint32) {
	p.Helper()
	for _, player := range players {
		if e := p.Open(player); e != api.OK {
			p.Fatalf("Open of %d: error %d", player, e)
		}
		out := p.told(p.Request(player, verb.Make(api.KLogin).With(p.ticket(player))))
		if !strings.HasPrefix(out, strconv.Itoa(int(player))+" welcome "+strconv.Itoa(int(player))+" ") {
			p.Fatalf("login of %d: %s", player, out)
		}
	}
}

// told is outs as a text: to a connection `7 queued 0`, to a host `host 1 start 1 0 [7] [8]`. A token is told by its nonce, if it is
// what its message says. Tokens are kept.
func (p *play) told(outs []hall.Out) string {
	p.Helper()
	var l []string
	for _, o := range outs {
		if _, e := verb.Encode(o.Msg); e != api.OK {
			p.Errorf("%v can't be encoded: error %d", o, e)
		}
		if side := verb.Side(o.Msg.Kind); o.Host && side != 3 || !o.Host && side != 2 {
			p.Errorf("%v goes to the wrong side", o)
		}
		words := []string{strconv.Itoa(int(o.To)), verb.Name(o.Msg.Kind)}
		if o.Host {
			words = slices.Insert(words, 0, "host")
		}
		for _, n := range o.Msg.N {
			words = append(words, strconv.FormatUint(n, 10))
		}
		for _, list := range o.Msg.L {
			var in []string
			for _, n := range list {
				in = append(in, strconv.Itoa(int(n)))
			}
			words = append(words, "["+strings.Join(in, " ")+"]")
		}
		if o.Msg.Kind == api.KSeat {
			words = append(words, "#"+p.token(o))
		}
		l = append(l, strings.Join(words, " "))
	}
	return strings.Join(l, "; ")
}

// token is the nonce of a token that was told, which is to be of just that seat and player.
func (p *play) token(o hall.Out) string {
	p.Helper()
	t, e := pass.OpenToken(key, o.Msg.S[0])
	n := o.Msg.N
	want := []uint64{uint64(t.Match), uint64(t.Instance), n[2], uint64(t.Seat), uint64(t.Expiry)}
	m, _ := p.Match(t.Match)
	there := slices.ContainsFunc(m.Seats, func(s seat.Seat) bool {
		return s.Player == t.Player && s.Number == int(t.Seat) && s.Team == int(n[2]) && m.Instance == uint32(t.Instance)
	})
	x, _ := p.See(t.Player)
	if e != api.OK || !slices.Equal(n, want) || !there || x.Conn != o.To {
		p.Errorf("%v has the token %v, error %d", o, t, e)
	}
	p.tokens[t.Player] = append(p.tokens[t.Player], o.Msg.S[0])
	return strconv.FormatUint(t.Nonce, 10)
}

// numbers are those of words.
func (p *play) numbers(words []string) []uint64 {
	p.Helper()
	var l []uint64
	for _, w := range words {
		n, e := strconv.ParseUint(w, 10, 64)
		if e != nil {
			p.Fatalf("no number: %q", w)
		}
		l = append(l, n)
	}
	return l
}

// do is what a line is answered: `7 queue 0` is a request on the connection 7, `host 1 hello` a report, `host 1 come 7` one with the
// last token of 7; `tick 5`, `open 7` and `close 7` are what they say.
func (p *play) do(line string) string {
	p.Helper()
	words := strings.Fields(line)
	first := words[0]
	if slices.Contains([]string{"host", "tick", "open", "close"}, first) {
		words = words[1:]
	}
	to := p.numbers(words[:1])[0]
	switch first {
	case "tick":
		return p.told(p.Tick(int64(to)))
	case "open":
		p.Open(uint32(to))
		return ""
	case "close":
		return p.told(p.Close(uint32(to)))
	}
	kind, is := verb.Kind(words[1])
	if !is {
		p.Fatalf("no kind: %q", words[1])
	}
	m := verb.Make(kind, p.numbers(words[2:])...)
	if kind == api.KCome {
		// Without a token it is an empty text.
		l := append([]string{""}, p.tokens[uint32(m.N[0])]...)
		m = verb.Make(kind).With(l[len(l)-1])
	}
	if first == "host" {
		return p.told(p.Report(uint32(to), m))
	}
	return p.told(p.Request(uint32(to), m))
}

// see does lines, and tells which of them is not answered as it is to be. Each goes as far as ` -> `.
func (p *play) see(lines ...string) {
	p.Helper()
	for _, line := range lines {
		do, want, _ := strings.Cut(line, " -> ")
		if got := p.do(do); got != want {
			p.Errorf("%s\n got: %s\nwant: %s", do, got, want)
		}
	}
}

// quietly does lines, whatever they are answered.
func (p *play) quietly(lines ...string) {
	p.Helper()
	for _, line := range lines {
		p.do(line)
	}
}

// look is all that is seen of a hall.
type look struct {
	Now       int64
	Known     []uint32
	Seen      []hall.Seen
	Conns     []uint32
	Queues    [][]queue.Ticket
	Matches   []seat.Match
	Instances []pool.Instance
}

// state is all that is seen of the play's hall.
func (p *play) state() look {
	l := look{Now: p.Now(), Known: p.Known(), Conns: p.Conns()}
	for _, player := range l.Known {
		s, _ := p.See(player)
		l.Seen = append(l.Seen, s)
	}
	for mode := range api.MaxModes {
		l.Queues = append(l.Queues, p.Queue(mode))
	}
	for _, id := range p.Matches() {
		m, _ := p.Match(id)
		l.Matches = append(l.Matches, m)
	}
	for id := range uint32(api.MaxInstances) {
		x, _ := p.Instance(id + 1)
		l.Instances = append(l.Instances, x)
	}
	return l
}

// same does lines, likewise, of which none may change anything that is seen.
func (p *play) same(lines ...string) {
	p.Helper()
	for _, line := range lines {
		before := p.state()
		p.see(line)
		if after := p.state(); !reflect.DeepEqual(before, after) {
			p.Errorf("%s has changed something:\n%v\n%v", line, before, after)
		}
	}
}

// status fails unless a player has a status.
func (p *play) status(player uint32, want int) {
	p.Helper()
	if x, is := p.See(player); !is || x.Status != want {
		p.Errorf("of %d: status %d (%v), want %d", player, x.Status, is, want)
	}
}

// befriend lets two be friends.
func (p *play) befriend(a, b uint32) {
	p.Helper()
	p.quietly(line(a, "friend-ask", b), line(b, "friend-accept", a))
}

// line is a request as a text.
func line(conn uint32, kind string, numbers ...uint32) string {
	s := strconv.Itoa(int(conn)) + " " + kind
	for _, n := range numbers {
		s += " " + strconv.Itoa(int(n))
	}
	return s
}

// party lets players be one, the first leads.
func (p *play) party(players ...uint32) {
	p.Helper()
	for _, player := range players[1:] {
		p.quietly(line(players[0], "invite", player))
		x, _ := p.See(players[0])
		p.quietly(line(player, "join", x.Party))
	}
}

// P24.1

func TestNew(t *testing.T) {
	right := plan.Usual(duel, pairs)
	wrong := map[string]func(c *plan.Config){
		"Key":         func(c *plan.Config) { c.Key = "" },
		"Conns":       func(c *plan.Config) { c.Conns = 65 },
		"Players":     func(c *plan.Config) { c.Players = 0 },
		"Parties":     func(c *plan.Config) { c.Parties = 33 },
		"Instances":   func(c *plan.Config) { c.Instances = 17 },
		"Idle":        func(c *plan.Config) { c.Idle = 0 },
		"Out":         func(c *plan.Config) { c.Out = 1025 },
		"Rate":        func(c *plan.Config) { c.Rate = 0 },
		"no modes":    func(c *plan.Config) { c.Modes = nil },
		"Modes":       func(c *plan.Config) { c.Modes = slices.Repeat(c.Modes, 3) },
		"a mode":      func(c *plan.Config) { c.Modes = modes(duel, plan.Mode{}) },
		"a mode's K":  func(c *plan.Config) { c.Modes[0].K = 5 },
		"all of them": func(c *plan.Config) { *c = plan.Config{} },
	}
	for what, spoil := range wrong {
		c := right
		c.Modes = slices.Clone(right.Modes)
		spoil(&c)
		if h, e := hall.New(c); h != nil || e != api.ErrPlan {
			t.Errorf("%s: %v, error %d, want %d", what, h, e, api.ErrPlan)
		}
	}
	h, e := hall.New(right)
	if h == nil || e != api.OK {
		t.Fatalf("error %d", e)
	}
	if h.Now() != 0 || len(h.Known()) != 0 || len(h.Conns()) != 0 || len(h.Matches()) != 0 || len(h.Queue(0)) != 0 || len(h.Tick(0)) != 0 {
		t.Error("a new hall is not empty")
	}
	for id := range uint32(20) {
		x, is := h.Instance(id)
		if is != (id >= 1 && id <= 4) || x != (pool.Instance{}) {
			t.Errorf("a new hall has the instance %d: %v, %v", id, x, is)
		}
	}
}

// As many as a config allows there may be of all, and no more.
func TestRoom(t *testing.T) {
	c := plan.Usual(duel)
	c.Conns, c.Players, c.Parties, c.Instances = 3, 2, 1, 0
	p := with(t, c)
	p.enter(1, 2)
	p.quietly("open 3")
	if e := p.Open(4); e != api.ErrFull {
		t.Errorf("one connection too many: error %d", e)
	}
	p.see("1 invite 2 -> 1 ok 10; 2 invited 1 1", "2 invite 1 -> 2 error 10 10")
	if got := p.told(p.Request(3, verb.Make(api.KLogin).With(p.ticket(3)))); got != "3 error 1 10" {
		t.Errorf("one player too many: %s", got)
	}
	p.see("host 1 hello -> ")
	if _, is := p.Instance(1); is {
		t.Error("one instance too many")
	}
}

// Whatever becomes of a config and its modes behind New is no matter of the hall's.
func TestConfigIsNotKept(t *testing.T) {
	c := plan.Usual(duel, pairs)
	p := with(t, c)
	p.enter(1, 2)
	c.Modes[0], c.Modes[1] = plan.Mode{}, plan.Mode{}
	p.see("host 1 hello -> ", "1 queue 0 -> 1 ok 17; 1 queued 0", "2 queue 0 -> 2 ok 17; 2 queued 0", "tick 1 -> 1 check 1 11; 2 check 1 11")
}

func TestIssue(t *testing.T) {
	p := with(t, plan.Usual(duel))
	for _, id := range []uint32{0, 1 << 31, 1<<31 + 7, math.MaxUint32} {
		if s, e := p.Issue(id, 1); s != "" || e != api.ErrId {
			t.Errorf("for %d: %q, error %d", id, s, e)
		}
	}
	for i, id := range []uint32{1, 7, last} {
		nonce := []uint64{0, 5, math.MaxUint64}[i]
		s, e := p.Issue(id, nonce)
		got, o := pass.OpenTicket(key, s)
		want := pass.Ticket{Player: id, Stamp: pass.Stamp{Expiry: 50, Nonce: nonce}}
		if e != api.OK || o != api.OK || got != want {
			t.Errorf("for %d: %v, errors %d and %d", id, got, e, o)
		}
		if s, e := p.Issue(8, nonce); s != "" || e != api.ErrExists {
			t.Errorf("once more: %q, error %d", s, e)
		}
		if s, e := p.Issue(0, nonce); s != "" || e != api.ErrId {
			t.Errorf("no id counts first: %q, error %d", s, e)
		}
	}
	for nonce := range uint64(253) {
		if _, e := p.Issue(7, 100+nonce); e != api.OK {
			t.Errorf("the nonce %d: error %d", nonce, e)
		}
	}
	if s, e := p.Issue(7, 99); s != "" || e != api.ErrFull {
		t.Errorf("one ticket too many: %q, error %d", s, e)
	}
	// At its expiry a ticket is not old, and stands there; behind it it is swept.
	p.quietly("tick 50")
	if _, e := p.Issue(7, 5); e != api.ErrExists {
		t.Errorf("at the expiry: error %d", e)
	}
	p.quietly("tick 1")
	s, e := p.Issue(7, 5)
	if got, _ := pass.OpenTicket(key, s); e != api.OK || got.Expiry != 101 {
		t.Errorf("when the old ones are swept: %v, error %d", got, e)
	}
}

func TestOpen(t *testing.T) {
	p := with(t, plan.Usual(duel))
	for _, id := range []uint32{0, 1 << 31, math.MaxUint32} {
		if e := p.Open(id); e != api.ErrId {
			t.Errorf("of %d: error %d", id, e)
		}
	}
	for _, id := range []uint32{9, 1, last} {
		if e := p.Open(id); e != api.OK {
			t.Errorf("of %d: error %d", id, e)
		}
		if e := p.Open(id); e != api.ErrExists {
			t.Errorf("of %d once more: error %d", id, e)
		}
	}
	if got := p.Conns(); !slices.Equal(got, []uint32{1, 9, last}) {
		t.Errorf("the connections are %v", got)
	}
	for id := range uint32(13) {
		p.Open(id + 20)
	}
	if e := p.Open(5); e != api.ErrFull {
		t.Errorf("one too many: error %d", e)
	}
	// It is touched by that, and idle Idle ticks later.
	p = with(t, plan.Usual(duel))
	p.quietly("tick 7", "open 3")
	p.see("tick 99 -> ", "tick 1 -> 3 bye 9")
}

// P24.2: what is said of all requests.

func TestConnectionThatIsNotThere(t *testing.T) {
	p := usual(t, modes(duel), 1, 2)
	for _, conn := range []uint32{0, 3, 1 << 31, math.MaxUint32} {
		for kind := range 256 {
			before := p.state()
			if got := p.told(p.Request(conn, verb.Make(kind, 1))); got != "" || !reflect.DeepEqual(before, p.state()) {
				t.Errorf("the kind %d on %d: %s", kind, conn, got)
			}
		}
		p.same("close " + strconv.Itoa(int(conn)) + " -> ")
	}
}

// fields are those that a kind has, all of them noughts or empty.
func fields(kind int) verb.Msg {
	m := verb.Make(kind)
	shape, _ := verb.Shape(kind)
	for _, c := range shape {
		switch c {
		case 's':
			m = m.With("")
		case 'l':
			m = m.And(nil)
		default:
			m = verb.Make(kind, append(m.N, 0)...).With(m.S...).And(m.L...)
		}
	}
	return m
}

// wrongs are messages that can't be encoded, by what they are answered.
func wrongs() map[string][]verb.Msg {
	return map[string][]verb.Msg{
		"2 1":   {verb.Make(api.KPing), verb.Make(api.KPing, 1, 2), verb.Make(api.KPing, 1).With(""), verb.Make(api.KPing, 1).And(nil)},
		"2 2":   {verb.Make(api.KPing, 1<<32), verb.Make(api.KPing, math.MaxUint64)},
		"1 1":   {verb.Make(api.KLogin), verb.Make(api.KLogin, 7), verb.Make(api.KLogin).With("", "")},
		"1 2":   {verb.Make(api.KLogin).With(strings.Repeat("a", 256))},
		"17 2":  {verb.Make(api.KQueue, 256)},
		"9 1":   {verb.Make(api.KFriends, 0)},
		"197 1": {verb.Make(api.KResult, 1)},
		"197 2": {verb.Make(api.KResult, 1, 256)},
		"198 1": {verb.Make(api.KFreed, 1)},
		"64 1":  {verb.Make(api.KOk)},
		"160 1": {verb.Make(api.KStart)},
		"0 5":   {verb.Make(0), verb.Make(256), verb.Make(-256), verb.Make(math.MinInt)},
		"255 5": {verb.Make(255), verb.Make(-1), verb.Make(math.MaxInt)},
		"2 5":   {verb.Make(258, 1), verb.Make(-254, 1)},
		"28 5":  {verb.Make(28), verb.Make(284)},
	}
}

func TestMalformed(t *testing.T) {
	p := usual(t, modes(duel), 1)
	p.quietly("host 1 hello", "open 2")
	for want, l := range wrongs() {
		for _, m := range l {
			before := p.state()
			for _, conn := range []uint32{1, 2} {
				if got := p.told(p.Request(conn, m)); got != strconv.Itoa(int(conn))+" error "+want {
					t.Errorf("the request %v on %d: %s, want %s", m, conn, got, want)
				}
			}
			if got := p.told(p.Report(1, m)); got != "host 1 refused "+want {
				t.Errorf("the report %v: %s, want %s", m, got, want)
			}
			if !reflect.DeepEqual(before, p.state()) {
				t.Errorf("%v has changed something", m)
			}
		}
	}
}

// A kind of another side is none, and that counts ahead of who is logged in.
func TestSides(t *testing.T) {
	p := usual(t, modes(duel), 1)
	p.quietly("host 1 hello", "open 2")
	for kind := range 256 {
		side, m := verb.Side(kind), fields(kind)
		if side == 0 {
			continue
		}
		n := strconv.Itoa(kind)
		if got := p.told(p.Request(1, m)); side != 1 && got != "1 error "+n+" 5" || side == 1 && strings.HasSuffix(got, " "+n+" 5") {
			t.Errorf("the request %s: %s", verb.Name(kind), got)
		}
		if kind == api.KLogout {
			p.Request(1, verb.Make(api.KLogin).With(p.ticket(1)))
		}
		if got := p.told(p.Request(2, m)); side != 1 && got != "2 error "+n+" 5" {
			t.Errorf("the request %s without a player: %s", verb.Name(kind), got)
		}
		if got := p.told(p.Report(1, m)); side != 4 && got != "host 1 refused "+n+" 5" || side == 4 && strings.HasSuffix(got, " "+n+" 5") {
			t.Errorf("the report %s: %s", verb.Name(kind), got)
		}
	}
}

func TestNobodyLoggedIn(t *testing.T) {
	p := with(t, plan.Usual(duel))
	p.quietly("open 2")
	for kind := api.KLogin; kind <= api.KMatch; kind++ {
		before := p.state()
		got := p.told(p.Request(2, fields(kind)))
		want := "2 error " + strconv.Itoa(kind) + " 25"
		switch kind {
		case api.KLogin:
			want = "2 error 1 7"
		case api.KPing:
			want = "2 pong 0"
		case api.KTime:
			want = "2 time-is 0"
		}
		if got != want || !reflect.DeepEqual(before, p.state()) {
			t.Errorf("%s: %s, want %s", verb.Name(kind), got, want)
		}
	}
}

// Whatever comes on a connection touches it, be it wrong or not.
func TestTouched(t *testing.T) {
	p := with(t, plan.Usual(duel))
	p.quietly("open 1", "open 2", "open 3", "open 4", "tick 60", "1 ping 1", "2 queue 9")
	p.Request(3, verb.Make(-1))
	p.see("tick 39 -> ", "tick 1 -> 4 bye 9", "tick 59 -> ", "tick 1 -> 1 bye 9; 2 bye 9; 3 bye 9")
}

// P24.2: login, ping, time, logout

// The chapter's examples.
func TestExample(t *testing.T) {
	p := with(t, plan.Usual(duel))
	s, _ := p.Issue(7, 1)
	p.quietly("open 1", "open 2")
	if got := p.told(p.Request(1, verb.Make(api.KLogin).With(s))); got != "1 welcome 7 1500 1" {
		t.Error(got)
	}
	if got := p.told(p.Request(2, verb.Make(api.KLogin).With(s))); got != "2 error 1 12" {
		t.Error(got)
	}
}

// forged is a login of somebody who can sign by the key.
func forged(player uint32, expiry int64, nonce uint64) verb.Msg {
	t := pass.Ticket{Player: player, Stamp: pass.Stamp{Expiry: expiry, Nonce: nonce}}
	return verb.Make(api.KLogin).With(t.Seal(key))
}

func TestLoginErrors(t *testing.T) {
	c := plan.Usual(duel)
	c.Players = 2
	p := with(t, c)
	p.enter(1, 2)
	p.quietly("open 3", "tick 5")
	p.Issue(1, 50)
	p.Issue(2, 51)
	token := pass.Token{Player: 1, Stamp: pass.Stamp{Expiry: 9, Nonce: 50}}
	other := mac.Make([]byte("tils"))
	for _, x := range []struct {
		what string
		conn uint32
		m    verb.Msg
		want api.Errno
	}{
		{"somebody is logged in, ahead of all else", 1, verb.Make(api.KLogin).With("no ticket"), api.ErrLogin},
		{"somebody is logged in", 1, forged(1, 55, 50), api.ErrLogin},
		{"nothing", 3, verb.Make(api.KLogin).With(""), api.ErrForm},
		{"too short", 3, verb.Make(api.KLogin).With(forged(1, 55, 50).S[0][:52]), api.ErrForm},
		{"a token", 3, verb.Make(api.KLogin).With(token.Seal(key)), api.ErrForm},
		{"another key's", 3, verb.Make(api.KLogin).With(pass.Ticket{Player: 1, Stamp: pass.Stamp{Expiry: 55, Nonce: 50}}.Seal(other)), api.ErrTag},
		{"old, ahead of no id", 3, forged(0, 4, 50), api.ErrOld},
		{"old", 3, forged(1, 4, 50), api.ErrOld},
		{"as old as may be", 3, forged(1, math.MinInt64, 50), api.ErrOld},
		{"no id, ahead of no room", 3, forged(0, 5, 50), api.ErrId},
		{"no id", 3, forged(1<<31, 55, 50), api.ErrId},
		{"no room, ahead of its nonce", 3, forged(9, 55, 99), api.ErrFull},
		{"no room", 3, forged(9, 55, 50), api.ErrFull},
		{"not issued", 3, forged(1, 55, 99), api.ErrMissing},
		{"issued to another one", 3, forged(2, 55, 50), api.ErrWrong},
	} {
		before := p.state()
		want := line(x.conn, "error 1", uint32(x.want))
		if got := p.told(p.Request(x.conn, x.m)); got != want || !reflect.DeepEqual(before, p.state()) {
			t.Errorf("%s: %s, want %s", x.what, got, want)
		}
	}
	// None of them has spent it. What counts of a ticket's age is the ledger's entry, too.
	p.quietly("tick 50")
	if got := p.told(p.Request(3, forged(1, 55, 50))); got != "3 welcome 1 1500 1; 1 bye 11" {
		t.Errorf("at its expiry: %s", got)
	}
	p.quietly("tick 1", "open 4")
	if got := p.told(p.Request(4, forged(2, 99, 51))); got != "4 error 1 12" {
		t.Errorf("behind its expiry, with a later one signed: %s", got)
	}
}

func TestLoginMoves(t *testing.T) {
	p := usual(t, modes(duel), 1, 2)
	p.befriend(1, 2)
	p.see("1 queue 0 -> 1 ok 17; 1 queued 0; 2 presence 1 2", "open 5 -> ")
	// The player is not gone meanwhile: the ticket waits on, and nothing else is seen.
	if got := p.told(p.Request(5, verb.Make(api.KLogin).With(p.ticket(1)))); got != "5 welcome 1 1500 2; 1 bye 11" {
		t.Error(got)
	}
	if got := p.Conns(); !slices.Equal(got, []uint32{2, 5}) {
		t.Errorf("the connections are %v", got)
	}
	p.see("1 ping 9 -> ", "5 cancel -> 5 ok 18; 5 unqueued 0; 2 presence 1 1")
}

func TestLoginAgain(t *testing.T) {
	p := usual(t, modes(duel), 1, 2)
	p.befriend(1, 2)
	p.see("1 logout -> 1 ok 25; 2 presence 1 0", "1 ping 3 -> 1 pong 3", "1 friends -> 1 error 9 25")
	// Others are told behind the reply; whoever logs in is not told of others.
	if got := p.told(p.Request(1, verb.Make(api.KLogin).With(p.ticket(1)))); got != "1 welcome 1 1500 1; 2 presence 1 1" {
		t.Error(got)
	}
	// The rating is what it became, and the status what the seat says.
	p.quietly("host 1 hello", "1 queue 0", "2 queue 0", "tick 1", "1 accept", "2 accept", "host 1 up")
	p.see("close 1 -> ", "open 1 -> ")
	if got := p.told(p.Request(1, verb.Make(api.KLogin).With(p.ticket(1)))); got != "1 welcome 1 1500 4" {
		t.Error(got)
	}
	p.quietly("host 1 come 1", "host 1 come 2", "1 logout")
	if got := p.told(p.Request(1, verb.Make(api.KLogin).With(p.ticket(1)))); got != "1 welcome 1 1500 5" {
		t.Error(got)
	}
	p.see("host 1 left 1 -> 2 presence 1 0", "1 logout -> 1 ok 25")
	if got := p.told(p.Request(1, verb.Make(api.KLogin).With(p.ticket(1)))); got != "1 welcome 1 1500 6" {
		t.Error(got)
	}
	p.see("1 logout -> 1 ok 25", "host 1 result 1 2 -> 2 over 1 2 1516")
	if got := p.told(p.Request(1, verb.Make(api.KLogin).With(p.ticket(1)))); got != "1 welcome 1 1484 1; 2 presence 1 1" {
		t.Error(got)
	}
}

func TestPingAndTime(t *testing.T) {
	p := usual(t, modes(duel), 1)
	p.same("1 ping 9 -> 1 pong 9", "1 ping 0 -> 1 pong 0", "1 ping 4294967295 -> 1 pong 4294967295", "1 time -> 1 time-is 0")
	p.see("tick 7 -> ", "1 time -> 1 time-is 7")
	p.Tick(math.MaxInt64)
	p.see("open 1 -> ", "1 time -> 1 time-is 9223372036854775807")
}

// Whoever logs out, or whose connection is closed, waits no more, nor do the others of the ticket.
func TestGone(t *testing.T) {
	for _, how := range []string{"1 logout", "close 1"} {
		p := usual(t, modes(pairs), 1, 2, 3)
		p.befriend(1, 3)
		p.party(1, 2)
		p.see("1 queue 0 -> 1 ok 17; 1 queued 0; 2 queued 0; 3 presence 1 2")
		reply := ""
		if how == "1 logout" {
			reply = "1 ok 25; "
		}
		p.see(how + " -> " + reply + "2 unqueued 0; 3 presence 1 0")
		x, _ := p.See(1)
		y, _ := p.See(2)
		if len(p.Queue(0)) != 0 || x.Party != 1 || y.Party != 1 || x.Conn != 0 || x.Status != api.Offline || y.Status != api.Idle {
			t.Errorf("%s: %v and %v", how, x, y)
		}
		p.same(map[bool]string{true: "1 logout -> 1 error 25 25", false: "close 1 -> "}[how == "1 logout"])
		p.see("close 1 -> ")
		if !slices.Equal(p.Conns(), []uint32{2, 3}) {
			t.Errorf("%s: the connections are %v", how, p.Conns())
		}
	}
}

func TestLooksOfPlayers(t *testing.T) {
	p := usual(t, modes(duel), 1, 2, 3)
	p.same("1 rating 2 -> 1 rating-is 2 1500", "1 rating 1 -> 1 rating-is 1 1500", "1 rating 4 -> 1 error 22 12", "1 rating 0 -> 1 error 22 12",
		"1 penalty -> 1 penalty-is 0 0",
		"1 status 1 -> 1 status-is 1 1", "1 status 2 -> 1 error 24 12", "1 status 9 -> 1 error 24 12", "1 status 0 -> 1 error 24 12",
		"1 match -> 1 match-is 0 0 0 0")
	p.befriend(1, 2)
	p.same("1 status 2 -> 1 status-is 2 1", "2 status 1 -> 2 status-is 1 1", "3 status 1 -> 3 error 24 12")
	p.quietly("host 1 hello", "2 queue 0", "3 queue 0")
	p.same("1 status 2 -> 1 status-is 2 2", "2 status 2 -> 2 status-is 2 2", "2 match -> 2 match-is 0 0 0 0")
	p.quietly("tick 1")
	p.same("1 status 2 -> 1 status-is 2 2", "2 status 2 -> 2 status-is 2 2", "2 match -> 2 match-is 0 0 0 0")
	p.quietly("2 accept", "3 accept")
	p.same("1 status 2 -> 1 status-is 2 5", "2 match -> 2 match-is 1 1 1 0", "3 match -> 3 match-is 1 1 2 1")
	p.quietly("host 1 up", "host 1 come 2", "host 1 come 3")
	p.same("1 status 2 -> 1 status-is 2 5", "2 status 2 -> 2 status-is 2 5")
	p.quietly("host 1 left 2")
	p.same("1 status 2 -> 1 status-is 2 0", "2 status 2 -> 2 status-is 2 0", "2 match -> 2 match-is 1 1 1 0")
	p.quietly("tick 14")
	p.see("tick 1 -> 2 penalised 4 1 60; host 1 lost 1 2; 1 presence 2 1")
	p.same("2 penalty -> 2 penalty-is 1 60", "2 match -> 2 match-is 0 0 0 0", "1 penalty -> 1 penalty-is 0 0")
	p.see("tick 10 -> ")
	p.same("2 penalty -> 2 penalty-is 1 50")
	p.quietly("close 2")
	p.same("1 status 2 -> 1 status-is 2 0", "1 rating 2 -> 1 rating-is 2 1500")
}

// parts are what a line was answered, one by one.
func parts(told string) []string {
	if told == "" {
		return nil
	}
	return strings.Split(told, "; ")
}

// unchanged fails unless all that is seen is as it was.
func (p *play) unchanged(before look) {
	p.Helper()
	if after := p.state(); !reflect.DeepEqual(before, after) {
		p.Errorf("something has changed:\n%v\n%v", before, after)
	}
}
