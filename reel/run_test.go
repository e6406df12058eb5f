package reel_test

import (
	"bytes"
	"fmt"
	"maps"
	"math"
	"math/rand"
	"slices"
	"testing"

	"tiltyard/api"
	"tiltyard/frame"
	"tiltyard/plan"
	"tiltyard/reel"
	"tiltyard/server"
	"tiltyard/verb"
)

// P27.2 and the examples: Run's answers, and its errors, of which the config's counts first.
func TestRun(t *testing.T) {
	c := plan.Usual(duel)
	open := rawAll(reel.Event{Kind: 3, Id: 9})
	for _, x := range []struct {
		name string
		c    plan.Config
		b    []byte
		out  string
		at   int
		e    api.Errno
	}{
		{"the example", c, open, "\x00\x00\x00\x00", 0, api.OK},
		{"none", c, nil, "", 0, api.OK},
		{"twice", c, slices.Concat(open, open), "\x00\x00\x00\x00\x0b\x00\x00\x00", 0, api.OK},
		{"short", c, slices.Concat(open, open, open[:14]), "", 2, api.ErrShort},
		{"wrong", c, slices.Concat(open, rawAll(reel.Event{Kind: 9}), open), "", 1, api.ErrRange},
		{"the first is wrong", c, rawAll(reel.Event{Kind: 3, Number: 1}), "", 0, api.ErrRange},
		{"no modes", plan.Usual(), open, "", 0, api.ErrPlan},
		{"no config", plan.Config{}, nil, "", 0, api.ErrPlan},
		{"no modes, and short", plan.Usual(), slices.Concat(open, open[:3]), "", 0, api.ErrPlan},
		{"no modes, and wrong", plan.Usual(), slices.Concat(open, rawAll(reel.Event{})), "", 0, api.ErrPlan},
	} {
		out, at, e := reel.Run(x.c, x.b)
		if string(out) != x.out || at != x.at || e != x.e {
			t.Errorf("%s: error %d, %d, %v", x.name, e, at, out)
		}
		if x.e != api.OK && out != nil {
			t.Errorf("%s: %v beside an error", x.name, out)
		}
	}
	tight := c
	tight.Conns = 1
	out, at, e := reel.Run(tight, rawAll(reel.Event{Kind: 3, Id: 9}, reel.Event{Kind: 3, Id: 10}, reel.Event{Kind: 4, Id: 9}, reel.Event{Kind: 3, Id: 10}))
	if e != api.OK || at != 0 || string(out) != "\x00\x00\x00\x00\x0a\x00\x00\x00\x00\x00\x00\x00\x00\x00\x00\x00" {
		t.Errorf("of its config: error %d, %d, %v", e, at, out)
	}
}

// P27.2, P27.3: a game's reel answers what a server does, twice the same; what its first events answer stands ahead of the rest.
func TestTale(t *testing.T) {
	l := tale(t)
	s := fresh(t)
	var want []byte
	for i, e := range l {
		want = append(want, rawAnswers(direct(s, e))...)
		out, at, err := reel.Run(plan.Usual(duel), rawAll(l[:i+1]...))
		if err != api.OK || at != 0 || !bytes.Equal(out, want) {
			t.Fatalf("%d events: error %d, %d\n got %v\nwant %v", i+1, err, at, out, want)
		}
	}
	in := append(make([]byte, 0, 10000), rawAll(l...)...)
	c := plan.Usual(duel)
	out, _, _ := reel.Run(c, in)
	if !bytes.Equal(in, rawAll(l...)) || c.Modes[0] != duel {
		t.Error("what is handed in is changed")
	}
	blot(in)
	c.Modes[0] = plan.Mode{}
	if !bytes.Equal(out, want) {
		t.Error("what is answered hangs on what was handed in")
	}
	again, _, _ := reel.Run(plan.Usual(duel), rawAll(l...))
	blot(out)
	if !bytes.Equal(again, want) {
		t.Error("answers share memory")
	}
}

// chance makes events by chance, beside a server whom they happen to.
type chance struct {
	*rand.Rand
	*server.Server
	nonce  uint64
	tokens map[uint32]string
	seen   map[int]int
}

// next are events that come next: as often as not those by which a match goes on.
func (c *chance) next() []reel.Event {
	conn, player := uint32(1+c.Intn(6)), uint32(1+c.Intn(6))
	switch n := c.Intn(60); {
	case n == 0:
		return []reel.Event{someRight(c.Rand)}
	case n == 1:
		return []reel.Event{{Kind: 4, Id: conn}}
	case n == 2:
		return []reel.Event{{Kind: 2, Number: c.Uint64()}}
	case n < 5:
		return []reel.Event{{Kind: 8, Id: conn, Number: []uint64{0, 5, 1 << 62, math.MaxUint64}[c.Intn(4)]}}
	case n == 5:
		return []reel.Event{{Kind: 5, Id: conn, Bytes: []byte{0, 1, 255, 0, 0}[:1+c.Intn(5)]}}
	case n < 12:
		return []reel.Event{{Kind: 7, Number: []uint64{0, 1, 1, 1, 2, 7, math.MaxUint64}[c.Intn(7)]}}
	case n < 22:
		return c.asks(conn, player)
	case n < 32:
		return c.reports(uint32(1 + c.Intn(2)))
	}
	return c.goesOn(conn, player)
}

// goesOn is what brings a player nearer to the end of a match.
func (c *chance) goesOn(conn, player uint32) []reel.Event {
	x, is := c.See(player)
	switch {
	case !is || x.Conn == 0:
		return c.enters(conn, player)
	case x.Status == api.Idle:
		return []reel.Event{{Kind: 5, Id: x.Conn, Bytes: wrapped(verb.Make(api.KQueue, uint64(c.Intn(4)/3)))}}
	case x.Status == api.Queued:
		return []reel.Event{{Kind: 7, Number: 1}}
	case x.Status == api.Checking:
		return []reel.Event{{Kind: 5, Id: x.Conn, Bytes: wrapped(verb.Make(api.KAccept))}}
	}
	m, _ := c.Match(x.Match)
	return c.reports(m.Instance)
}

// enters lets a player log in at a connection.
func (c *chance) enters(conn, player uint32) []reel.Event {
	c.nonce++
	issue := reel.Event{Kind: 1, Id: player, Number: c.nonce}
	ticket := direct(c.Server, issue).Ticket
	return []reel.Event{issue, {Kind: 3, Id: conn}, {Kind: 5, Id: conn, Bytes: wrapped(verb.Make(api.KLogin).With(ticket))}}
}

// asks is a connection's request.
func (c *chance) asks(conn, player uint32) []reel.Event {
	m := []verb.Msg{
		verb.Make(api.KQueue, 0), verb.Make(api.KQueue, 0), verb.Make(api.KQueue, 1), verb.Make(api.KAccept), verb.Make(api.KAccept), verb.Make(api.KDecline),
		verb.Make(api.KInvite, uint64(player)), verb.Make(api.KJoin, 1), verb.Make(api.KFriendAsk, uint64(player)),
		verb.Make(api.KFriendAccept, uint64(player)), verb.Make(api.KTime), verb.Make(api.KLogout),
	}[c.Intn(12)]
	return []reel.Event{{Kind: 5, Id: conn, Bytes: wrapped(m)}}
}

// reports are a host's reports, such as may come next there.
func (c *chance) reports(instance uint32) []reel.Event {
	x, is := c.Instance(instance)
	if !is {
		return nil
	}
	m := []verb.Msg{verb.Make(api.KHello), verb.Make(api.KBeat), verb.Make(api.KUp), verb.Make(api.KFreed)}
	for _, player := range slices.Sorted(maps.Keys(c.tokens)) {
		m = append(m, verb.Make(api.KCome).With(c.tokens[player]))
	}
	if c.Intn(4) == 0 {
		m = append(m, verb.Make(api.KLeft, uint64(1+c.Intn(6))), verb.Make(api.KResult, uint64(x.Match), uint64(1+c.Intn(3))))
	}
	return []reel.Event{{Kind: 6, Id: instance, Bytes: wrapped(m[c.Intn(len(m))])}}
}

// keep keeps the tokens of what was answered, and counts the messages.
func (c *chance) keep(a reel.Answer) {
	for _, x := range a.Sends {
		r := frame.New()
		frames, _ := r.Feed(x.Bytes)
		for _, b := range frames {
			m, e := verb.Decode(b)
			c.seen[m.Kind]++
			if e == api.OK && m.Kind == api.KSeat {
				c.tokens[x.To] = m.S[0]
			}
		}
	}
}

// P27.2, P27.3: a reel of events by chance is decoded to what it was, and answers what a server does, twice the same, and its first events likewise.
func TestByChance(t *testing.T) {
	seen := map[int]int{}
	for seed := range int64(40) {
		r := rand.New(rand.NewSource(seed))
		set := plan.Usual(duel, plan.Mode{K: 2, Base: 10000, Cap: 10000, Every: 1})
		set.Instances, set.Out, set.Rate = 2, 1026+r.Intn(2000), 1+r.Intn(10)
		s, _ := server.New(set)
		c := &chance{Rand: r, tokens: map[uint32]string{}, seen: seen}
		c.Server, _ = server.New(set)
		var l []reel.Event
		var want []byte
		ends := []int{0}
		for range 300 {
			for _, e := range c.next() {
				// A ticket was issued already, when it was made.
				if e.Kind != 1 {
					c.keep(direct(c.Server, e))
				}
				l = append(l, e)
				want = append(want, rawAnswers(direct(s, e))...)
				ends = append(ends, len(want))
			}
		}
		see(t, fmt.Sprintf("seed %d", seed), set, l, want)
		half := r.Intn(len(l))
		see(t, fmt.Sprintf("seed %d, half", seed), set, l[:half], want[:ends[half]])
	}
	for kind, least := range map[int]int{api.KWelcome: 100, api.KCheck: 100, api.KStart: 20, api.KLive: 20, api.KOver: 20, api.KFriendNow: 10, api.KPartyNow: 10, api.KPenalised: 10, api.KBye: 20, api.KError: 100, api.KRefused: 100} {
		if seen[kind] < least {
			t.Errorf("%s: only %d", verb.Name(kind), seen[kind])
		}
	}
}

// see tells what is wrong with what a reel answers.
func see(t *testing.T, name string, set plan.Config, l []reel.Event, want []byte) {
	t.Helper()
	b, e := reel.Encode(l...)
	if e != api.OK || !bytes.Equal(b, rawAll(l...)) {
		t.Fatalf("%s: Encode: error %d", name, e)
	}
	if m, at, e := reel.Decode(b); e != api.OK || at != 0 || !same(l, m) {
		t.Fatalf("%s: Decode: error %d, %d", name, e, at)
	}
	for range 2 {
		out, at, e := reel.Run(set, b)
		if e != api.OK || at != 0 || !bytes.Equal(out, want) {
			t.Fatalf("%s: error %d, %d\n got %v\nwant %v", name, e, at, out, want)
		}
	}
}
