package server_test

import (
	"fmt"
	"slices"
	"strconv"
	"strings"
	"testing"

	"tiltyard/api"
	"tiltyard/frame"
	"tiltyard/hall"
	"tiltyard/plan"
	"tiltyard/pool"
	"tiltyard/queue"
	"tiltyard/seat"
	"tiltyard/server"
	"tiltyard/verb"
)

// The calls are just these.
var (
	_ func(plan.Config) (*server.Server, api.Errno)                   = server.New
	_ func(*server.Server, uint32, uint64) (string, api.Errno)        = (*server.Server).Issue
	_ func(*server.Server, uint64)                                    = (*server.Server).Draw
	_ func(*server.Server, uint32) api.Errno                          = (*server.Server).Open
	_ func(*server.Server, uint32) ([]server.Send, api.Errno)         = (*server.Server).Shut
	_ func(*server.Server, uint32, []byte) ([]server.Send, api.Errno) = (*server.Server).Feed
	_ func(*server.Server, uint32, []byte) ([]server.Send, api.Errno) = (*server.Server).HostFeed
	_ func(*server.Server, uint32, int) api.Errno                     = (*server.Server).Gone
	_ func(*server.Server, int64) []server.Send                       = (*server.Server).Tick
	_ func(*server.Server, uint32) int                                = (*server.Server).Flying
	_ func(*server.Server) int64                                      = (*server.Server).Now
	_ func(*server.Server) []uint32                                   = (*server.Server).Known
	_ func(*server.Server, uint32) (hall.Seen, bool)                  = (*server.Server).See
	_ func(*server.Server) []uint32                                   = (*server.Server).Conns
	_ func(*server.Server, int) []queue.Ticket                        = (*server.Server).Queue
	_ func(*server.Server) []uint32                                   = (*server.Server).Matches
	_ func(*server.Server, uint32) (seat.Match, bool)                 = (*server.Server).Match
	_ func(*server.Server, uint32) (pool.Instance, bool)              = (*server.Server).Instance
	_                                                                 = server.Send{Host: true, To: 1, Bytes: nil, Close: true}
)

const last = 1<<31 - 1

// noIds are numbers that no connection has.
var noIds = []uint32{0, last + 1, 1<<32 - 1}

// duel is a mode of one in which all may meet.
var duel = plan.Mode{K: 1, Base: 10000, Cap: 10000, Every: 1}

// play is a server whose players are logged in at the connections of their own numbers, unless a test does otherwise. It keeps the
// token that came to each connection last.
type play struct {
	*testing.T
	*server.Server
	nonce  uint64
	tokens map[uint32]string
}

// with is a play by a config.
func with(t *testing.T, c plan.Config) *play {
	t.Helper()
	s, e := server.New(c)
	if e != api.OK {
		t.Fatalf("New: error %d", e)
	}
	return &play{T: t, Server: s, tokens: map[uint32]string{}}
}

// usual is a play by the usual config and the mode duel, in which some players are logged in, and nothing is in flight.
func usual(t *testing.T, players ...uint32) *play {
	t.Helper()
	p := with(t, plan.Usual(duel))
	p.enter(players...)
	return p
}

// enter lets players log in, each at the connection of the same number.
func (p *play) enter(players ...uint32) {
	p.Helper()
	for _, player := range players {
		p.see(fmt.Sprintf("open %d -> ", player), fmt.Sprintf("%d: login %d -> %d: welcome %d 1500 1", player, player, player, player))
	}
	p.flow()
}

// flow lets all bytes have gone.
func (p *play) flow() {
	for _, conn := range p.Conns() {
		p.Gone(conn, p.Flying(conn))
	}
}

// frames are those of bytes that are wrapped, as the chapter of frames tells of them.
func frames(t *testing.T, b []byte) [][]byte {
	t.Helper()
	var l [][]byte
	for len(b) > 0 {
		if len(b) < 2 || len(b) < 2+int(b[0])*256+int(b[1]) || b[0] == 0 && b[1] == 0 {
			t.Fatalf("no frames: %v", b)
		}
		end := 2 + int(b[0])*256 + int(b[1])
		l = append(l, b[2:end])
		b = b[end:]
	}
	return l
}

// text is a message as words: `pong 9`, `start 1 0 [7] [8]`. Texts do not stand in it.
func text(m verb.Msg) string {
	words := []string{verb.Name(m.Kind)}
	for _, n := range m.N {
		words = append(words, strconv.FormatUint(n, 10))
	}
	for _, l := range m.L {
		words = append(words, fmt.Sprint(l))
	}
	return strings.Join(words, " ")
}

// told is sends as a text, such as `1: pong 9, error 0 6, closed; host 1: start 1 0 [7] [8]`.
func (p *play) told(sends []server.Send) string {
	p.Helper()
	var l []string
	for i, x := range sends {
		if i > 0 && !ahead(sends[i-1], x) {
			p.Errorf("%v stands ahead of %v", sends[i-1], x)
		}
		if len(x.Bytes) == 0 && !x.Close || x.Host && x.Close {
			p.Errorf("a send of nothing, or a host that is closed: %v", x)
		}
		var words []string
		for _, b := range frames(p.T, x.Bytes) {
			m, e := verb.Decode(b)
			if side := verb.Side(m.Kind); e != api.OK || x.Host != (side == 3) || !x.Host && side != 2 {
				p.Fatalf("%v: error %d", b, e)
			}
			if m.Kind == api.KSeat {
				p.tokens[x.To] = m.S[0]
			}
			words = append(words, text(m))
		}
		if x.Close {
			words = append(words, "closed")
		}
		l = append(l, fmt.Sprintf("%s%d: %s", map[bool]string{true: "host "}[x.Host], x.To, strings.Join(words, ", ")))
	}
	return strings.Join(l, "; ")
}

// ahead tells whether a send stands ahead of another one.
func ahead(a, b server.Send) bool {
	return !a.Host && b.Host || a.Host == b.Host && a.To < b.To
}

// message is a message of words, such as `queue 0`. A login is one with a new ticket of a player, a come one with the last token
// that came to a connection.
func (p *play) message(s string) verb.Msg {
	p.Helper()
	words := strings.Fields(s)
	kind, is := verb.Kind(words[0])
	if !is {
		p.Fatalf("no kind: %s", s)
	}
	var numbers []uint64
	for _, word := range words[1:] {
		n, err := strconv.ParseUint(word, 10, 64)
		if err != nil {
			p.Fatal(err)
		}
		numbers = append(numbers, n)
	}
	switch kind {
	case api.KLogin:
		p.nonce++
		ticket, e := p.Issue(uint32(numbers[0]), p.nonce)
		if e != api.OK {
			p.Fatalf("Issue: error %d", e)
		}
		return verb.Make(kind).With(ticket)
	case api.KCome:
		return verb.Make(kind).With(p.tokens[uint32(numbers[0])])
	}
	return verb.Make(kind, numbers...)
}

// bytes are the bytes of messages with commas between them, wrapped; or, if they stand as `bytes 0 1 9`, just these.
func (p *play) bytes(s string) []byte {
	p.Helper()
	var b []byte
	if raw, is := strings.CutPrefix(s, "bytes"); is {
		for _, word := range strings.Fields(raw) {
			n, err := strconv.ParseUint(word, 10, 8)
			if err != nil {
				p.Fatal(err)
			}
			b = append(b, byte(n))
		}
		return b
	}
	for _, one := range strings.Split(s, ", ") {
		in, e := verb.Encode(p.message(one))
		if e != api.OK {
			p.Fatalf("%s: error %d", one, e)
		}
		whole, _ := frame.Wrap(in)
		b = append(b, whole...)
	}
	return b
}

// do lets an event happen, such as `1: ping 9, time`, `host 1: hello`, `1: bytes 0 5 2`, `open 1`, `shut 1`, `gone 1 7` and
// `tick 5`, and is what is answered; of an error `error 12`.
func (p *play) do(event string) string {
	p.Helper()
	if to, what, is := strings.Cut(event, ": "); is {
		who, isHost := strings.CutPrefix(to, "host ")
		id, err := strconv.ParseUint(who, 10, 32)
		if err != nil {
			p.Fatal(err)
		}
		feed := p.Feed
		if isHost {
			feed = p.HostFeed
		}
		return p.answer(feed(uint32(id), p.bytes(what)))
	}
	words := strings.Fields(event)
	var numbers []int64
	for _, word := range words[1:] {
		n, err := strconv.ParseInt(word, 10, 64)
		if err != nil {
			p.Fatal(err)
		}
		numbers = append(numbers, n)
	}
	switch words[0] {
	case "open":
		return p.answer(nil, p.Open(uint32(numbers[0])))
	case "shut":
		return p.answer(p.Shut(uint32(numbers[0])))
	case "gone":
		return p.answer(nil, p.Gone(uint32(numbers[0]), int(numbers[1])))
	case "tick":
		return p.answer(p.Tick(numbers[0]), api.OK)
	}
	p.Fatalf("no event: %s", event)
	return ""
}

// answer is what a call answered, as a text.
func (p *play) answer(sends []server.Send, e api.Errno) string {
	p.Helper()
	if e != api.OK {
		if sends != nil {
			p.Errorf("%v beside the error %d", sends, e)
		}
		return fmt.Sprintf("error %d", e)
	}
	return p.told(sends)
}

// see tells what is wrong with lines: each is an event, and what should be answered to it, as `1: ping 9 -> 1: pong 9`.
func (p *play) see(lines ...string) {
	p.Helper()
	for _, line := range lines {
		event, want, _ := strings.Cut(line, " -> ")
		if got := p.do(event); got != want {
			p.Errorf("%s\n got %s\nwant %s", event, got, want)
		}
	}
}

// quietly lets events happen, whatever is answered.
func (p *play) quietly(events ...string) {
	p.Helper()
	for _, event := range events {
		p.do(event)
	}
}

// conns tells what is wrong with which connections are there.
func (p *play) conns(want ...uint32) {
	p.Helper()
	if got := p.Conns(); !slices.Equal(got, want) {
		p.Errorf("the connections %v, want %v", got, want)
	}
}

// flies tells what is wrong with how many bytes are in flight on a connection.
func (p *play) flies(conn uint32, want int) {
	p.Helper()
	if got := p.Flying(conn); got != want {
		p.Errorf("%d bytes are in flight on %d, want %d", got, conn, want)
	}
}

// The chapter's examples, byte by byte.
func TestExamples(t *testing.T) {
	p := usual(t)
	p.see("open 1 -> ")
	l, e := p.Feed(1, []byte{0, 5, 2, 0, 0, 0, 9})
	if e != api.OK || len(l) != 1 || l[0].Host || l[0].To != 1 || string(l[0].Bytes) != "\x00\x05\x43\x00\x00\x00\x09" || l[0].Close {
		t.Errorf("example 1: %v, %d", l, e)
	}
	l, e = p.Feed(1, []byte{0, 0})
	if e != api.OK || len(l) != 1 || l[0].Host || l[0].To != 1 || string(l[0].Bytes) != "\x00\x03\x41\x00\x06" || !l[0].Close {
		t.Errorf("example 2: %v, %d", l, e)
	}
	p.conns()
}

// The document's ten examples of the whole.
func TestWhole(t *testing.T) {
	p := usual(t)
	p.see(
		"open 1 -> ",
		"1: bytes 0 5 2 0 0 0 9 -> 1: pong 9",
		"1: bytes 0 0 -> 1: error 0 6, closed",
		"open 1 -> ", "open 2 -> ",
	)
	login := p.bytes("login 7")
	l, _ := p.Feed(1, login)
	if got := p.told(l); got != "1: welcome 7 1500 1" {
		t.Error(got)
	}
	l, _ = p.Feed(2, login)
	if got := p.told(l); got != "2: error 1 12" {
		t.Error(got)
	}
	p.see(
		"2: login 8 -> 2: welcome 8 1500 1",
		"host 1: hello -> ",
		"1: queue 0 -> 1: ok 17, queued 0",
		"2: queue 0 -> 2: ok 17, queued 0",
		"tick 1 -> 1: check 1 11; 2: check 1 11",
		"1: accept -> 1: ok 19",
		"2: accept -> 1: check-over 1 0; 2: ok 19, check-over 1 0; host 1: start 1 0 [7] [8]",
		"host 1: up -> 1: seat 1 1 1 0 21; 2: seat 1 1 2 1 21",
		"host 1: come 1 -> 1: live 1; host 1: joined 1 7",
		"host 1: come 1 -> host 1: refused 195 12",
		"tick 20 -> 2: penalised 3 1 60; host 1: lost 1 8",
		"2: queue 0 -> 2: error 17 23",
		"host 1: result 1 1 -> 1: over 1 1 1500",
		"host 1: result 1 1 -> host 1: refused 197 24",
	)
}

// The ninth one: a party of three in a mode of two.
func TestWholeParty(t *testing.T) {
	p := with(t, plan.Usual(plan.Mode{K: 2, Every: 1}))
	p.enter(1, 2, 3)
	p.quietly("1: invite 2, invite 3", "2: join 1", "3: join 1")
	p.see("1: queue 0 -> 1: error 17 21")
}

// What a match goes through, from its players' logins to its host's result, each event in one piece.
func TestMatch(t *testing.T) {
	p := usual(t, 7, 8)
	p.see(
		"host 1: hello, beat -> ",
		"7: queue 0 -> 7: ok 17, queued 0",
		"8: queue 0 -> 8: ok 17, queued 0",
		"tick 0 -> 7: check 1 10; 8: check 1 10",
		"7: accept -> 7: ok 19",
		"8: accept, match -> 7: check-over 1 0; 8: ok 19, check-over 1 0, match-is 1 1 2 1; host 1: start 1 0 [7] [8]",
		"host 1: up -> 7: seat 1 1 1 0 20; 8: seat 1 1 2 1 20",
		"host 1: come 7, come 8 -> 7: live 1; 8: live 1; host 1: joined 1 7, joined 1 8",
		"host 1: result 1 1, result 1 1 -> 7: over 1 1 1516; 8: over 1 1 1484; host 1: refused 197 24",
		"host 1: freed -> ",
	)
	if x, is := p.Instance(1); !is || x.State != pool.Free {
		t.Errorf("the instance: %v, %v", x, is)
	}
}

// Whose instance is silent is not penalised.
func TestSilentHost(t *testing.T) {
	p := usual(t, 7, 8)
	p.quietly("host 1: hello", "7: queue 0", "8: queue 0", "tick 0", "7: accept", "8: accept", "host 1: up", "host 1: come 7, come 8")
	p.see(
		"tick 29 -> ",
		"7: ping 1 -> 7: pong 1",
		"tick 1 -> 7: over 1 3 1500; 8: over 1 3 1500",
		"7: penalty -> 7: penalty-is 0 0",
	)
}

// Sends stand in order, connections ahead of hosts, however many there are.
func TestOrder(t *testing.T) {
	for range 5 {
		p := usual(t, 1, 2, 3, 4, 5, 6, 7, 8)
		p.quietly("host 4: hello", "host 2: hello", "host 3: hello", "host 1: hello")
		for player := uint32(1); player <= 8; player++ {
			p.quietly(itoa(player)+": queue 0", "tick 0")
		}
		for player := uint32(1); player <= 8; player++ {
			p.quietly(itoa(player) + ": accept")
		}
		p.quietly("host 3: up", "host 1: up", "host 4: up", "host 2: up")
		var want []string
		for player := uint32(1); player <= 8; player++ {
			want = append(want, itoa(player)+": penalised 3 1 60")
		}
		for id := uint32(1); id <= 4; id++ {
			want = append(want, fmt.Sprintf("host %d: lost %d %d, lost %d %d, drain %d", id, id, 2*id-1, id, 2*id, id))
		}
		p.see("tick 20 -> " + strings.Join(want, "; "))
	}
}

// itoa is a number as a text.
func itoa(n uint32) string { return strconv.Itoa(int(n)) }
