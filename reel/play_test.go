package reel_test

import (
	"bytes"
	"encoding/binary"
	"math"
	"reflect"
	"strings"
	"testing"

	"tiltyard/api"
	"tiltyard/frame"
	"tiltyard/plan"
	"tiltyard/reel"
	"tiltyard/server"
	"tiltyard/verb"
)

// duel is a mode of one in which all may meet.
var duel = plan.Mode{K: 1, Base: 10000, Cap: 10000, Every: 1}

// fresh is a new server by the usual config with the mode duel.
func fresh(t *testing.T) *server.Server {
	t.Helper()
	s, e := server.New(plan.Usual(duel))
	if e != api.OK {
		t.Fatalf("New: error %d", e)
	}
	return s
}

// wrapped is a message's bytes, wrapped.
func wrapped(m verb.Msg) []byte {
	b, e := verb.Encode(m)
	whole, f := frame.Wrap(b)
	if e != api.OK || f != api.OK {
		panic("no message")
	}
	return whole
}

// rawAnswers is answers' bytes, as the chapter says.
func rawAnswers(l ...reel.Answer) []byte {
	var b []byte
	for _, a := range l {
		if len(a.Ticket) > 255 {
			a.Ticket = a.Ticket[:255]
		}
		if len(a.Sends) > 65535 {
			a.Sends = a.Sends[:65535]
		}
		b = append(b, byte(a.Err), byte(len(a.Ticket)))
		b = append(b, a.Ticket...)
		b = binary.BigEndian.AppendUint16(b, uint16(len(a.Sends)))
		for _, s := range a.Sends {
			b = append(b, map[bool]byte{true: 1}[s.Host])
			b = binary.BigEndian.AppendUint32(b, s.To)
			b = append(b, map[bool]byte{true: 1}[s.Close])
			b = binary.BigEndian.AppendUint32(b, uint32(len(s.Bytes)))
			b = append(b, s.Bytes...)
		}
	}
	return b
}

// direct is what a server answers of an event, by its own calls.
func direct(s *server.Server, e reel.Event) (a reel.Answer) {
	if !right(e) {
		a.Err = api.ErrRange
		return a
	}
	switch e.Kind {
	case 1:
		a.Ticket, a.Err = s.Issue(e.Id, e.Number)
	case 2:
		s.Draw(e.Number)
	case 3:
		a.Err = s.Open(e.Id)
	case 4:
		a.Sends, a.Err = s.Shut(e.Id)
	case 5:
		a.Sends, a.Err = s.Feed(e.Id, e.Bytes)
	case 6:
		a.Sends, a.Err = s.HostFeed(e.Id, e.Bytes)
	case 7:
		a.Sends = s.Tick(int64(e.Number))
	case 8:
		a.Err = s.Gone(e.Id, int(min(max(int64(e.Number), math.MinInt), math.MaxInt)))
	}
	return a
}

// alike tells whether answers are the same; of lists one that is nil is one that is empty.
func alike(a, b reel.Answer) bool { return bytes.Equal(rawAnswers(a), rawAnswers(b)) && a.Err == b.Err }

// P27.2: what is told of answers, byte by byte.
func TestTell(t *testing.T) {
	l := []reel.Answer{
		{Err: api.ErrBanned},
		{Ticket: "a\x00\xff"},
		{Err: 1, Ticket: "b", Sends: []server.Send{
			{To: 0x01020304, Bytes: []byte{7, 8}},
			{To: 5, Close: true},
			{Host: true, To: 1<<32 - 1, Bytes: []byte{9}},
			{Host: true, Close: true, Bytes: []byte{}},
		}},
		{},
	}
	want := []byte{
		23, 0, 0, 0,
		0, 3, 'a', 0, 255, 0, 0,
		1, 1, 'b', 0, 4,
		0, 1, 2, 3, 4, 0, 0, 0, 0, 2, 7, 8,
		0, 0, 0, 0, 5, 1, 0, 0, 0, 0,
		1, 255, 255, 255, 255, 0, 0, 0, 0, 1, 9,
		1, 0, 0, 0, 0, 1, 0, 0, 0, 0,
		0, 0, 0, 0,
	}
	if b := reel.Tell(l...); !bytes.Equal(b, want) {
		t.Errorf("\n got %v\nwant %v", b, want)
	}
	if b := reel.Tell(); len(b) != 0 {
		t.Errorf("of none: %v", b)
	}
	for err, low := range map[api.Errno]byte{-1: 255, -256: 0, 255: 255, 256: 0, 257: 1, math.MaxInt: 255, math.MinInt: 0} {
		if b := reel.Tell(reel.Answer{Err: err}); !bytes.Equal(b, []byte{low, 0, 0, 0}) {
			t.Errorf("of the error %d: %v", err, b)
		}
	}
}

// P27.2: of what is too much for its length the first is told, and what stands behind it is told as ever.
func TestTellTooMuch(t *testing.T) {
	for _, many := range []int{0, 1, 127, 128, 254, 255, 256, 257, 511, 512, 70000} {
		ticket := strings.Repeat("xyz", many)[:many]
		l := []reel.Answer{{Ticket: ticket, Sends: []server.Send{{To: 1}}}, {Err: 3}}
		if b := reel.Tell(l...); !bytes.Equal(b, rawAnswers(l...)) || int(b[1]) != min(many, 255) {
			t.Errorf("of a ticket of %d bytes: %d bytes, %v ..", many, len(b), b[:4])
		}
	}
	for _, many := range []int{255, 256, 65534, 65535, 65536, 65537, 131072} {
		sends := make([]server.Send, many)
		for i := range sends {
			sends[i].To = uint32(i)
		}
		l := []reel.Answer{{Sends: sends}, {Err: 3}}
		if b := reel.Tell(l...); !bytes.Equal(b, rawAnswers(l...)) || len(b) != 8+10*min(many, 65535) {
			t.Errorf("of %d sends: %d bytes, %v ..", many, len(b), b[:4])
		}
	}
	for _, many := range []int{255, 256, 65535, 65536, 70000, 1 << 24} {
		l := []reel.Answer{{Sends: []server.Send{{Bytes: make([]byte, many)}, {To: 1, Bytes: []byte{1}}}}}
		if b := reel.Tell(l...); !bytes.Equal(b, rawAnswers(l...)) {
			t.Errorf("of %d bytes: %d bytes, %v ..", many, len(b), b[:14])
		}
	}
}

// P27.2: Play's answers of each kind of event, those that are errors, too.
func TestPlay(t *testing.T) {
	s := fresh(t)
	see := func(want reel.Answer, e reel.Event) {
		t.Helper()
		if got := reel.Play(s, e); !alike(got, want) {
			t.Errorf("%v\n got %v\nwant %v", e, got, want)
		}
	}
	fail := func(err api.Errno) reel.Answer { return reel.Answer{Err: err} }
	ping := []byte{0, 5, 2, 0, 0, 0, 9}
	pong := []server.Send{{To: 4, Bytes: []byte{0, 5, 67, 0, 0, 0, 9}}}

	see(fail(api.ErrId), reel.Event{Kind: 1, Id: 0, Number: 1})
	ticket := reel.Play(s, reel.Event{Kind: 1, Id: 7, Number: 1})
	if want, e := fresh(t).Issue(7, 1); e != api.OK || ticket.Ticket != want || ticket.Err != api.OK || ticket.Sends != nil {
		t.Errorf("issue: %v", ticket)
	}
	see(fail(api.ErrExists), reel.Event{Kind: 1, Id: 8, Number: 1})

	see(fail(api.ErrId), reel.Event{Kind: 3, Id: 1 << 31})
	see(fail(api.OK), reel.Event{Kind: 3, Id: 4})
	see(fail(api.ErrExists), reel.Event{Kind: 3, Id: 4})

	see(fail(api.ErrMissing), reel.Event{Kind: 5, Id: 5, Bytes: ping})
	see(reel.Answer{Sends: pong}, reel.Event{Kind: 5, Id: 4, Bytes: ping})
	see(fail(api.OK), reel.Event{Kind: 5, Id: 4, Bytes: ping[:3]})
	see(reel.Answer{Sends: pong}, reel.Event{Kind: 5, Id: 4, Bytes: ping[3:]})

	see(fail(api.ErrMissing), reel.Event{Kind: 6, Id: 5, Bytes: []byte{0, 1, 192}})
	see(fail(api.OK), reel.Event{Kind: 6, Id: 4, Bytes: []byte{0, 1, 192}})
	refused := []server.Send{{Host: true, To: 4, Bytes: []byte{0, 3, 165, 198, 24}}}
	see(reel.Answer{Sends: refused}, reel.Event{Kind: 6, Id: 4, Bytes: []byte{0, 1, 198}})

	see(fail(api.ErrMissing), reel.Event{Kind: 8, Id: 5, Number: 1})
	if s.Flying(4) != 14 {
		t.Errorf("%d in flight", s.Flying(4))
	}
	for _, x := range []struct {
		n    uint64
		left int
	}{{0, 14}, {math.MaxUint64, 14}, {1 << 63, 14}, {5, 9}, {1<<63 - 1, 0}} {
		see(fail(api.OK), reel.Event{Kind: 8, Id: 4, Number: x.n})
		if s.Flying(4) != x.left {
			t.Errorf("%d have gone: %d in flight, want %d", x.n, s.Flying(4), x.left)
		}
	}

	for _, x := range []struct {
		n    uint64
		then int64
	}{{0, 0}, {5, 5}, {math.MaxUint64, 5}, {1 << 63, 5}, {1, 6}, {1<<40 + 3, 1<<40 + 9}, {1<<63 - 1, math.MaxInt64}} {
		a := reel.Play(s, reel.Event{Kind: 7, Number: x.n})
		if a.Err != api.OK || a.Ticket != "" || s.Now() != x.then {
			t.Errorf("a tick of %d: %v, and it is %d, want %d", x.n, a, s.Now(), x.then)
		}
	}

	s = fresh(t)
	see(fail(api.OK), reel.Event{Kind: 3, Id: 4})
	see(reel.Answer{Sends: []server.Send{{To: 4, Bytes: []byte{0, 3, 65, 0, 6}, Close: true}}}, reel.Event{Kind: 5, Id: 4, Bytes: []byte{0, 0}})
	see(fail(api.ErrMissing), reel.Event{Kind: 4, Id: 4})
	see(fail(api.OK), reel.Event{Kind: 3, Id: 4})
	see(fail(api.OK), reel.Event{Kind: 4, Id: 4})
	see(fail(api.ErrMissing), reel.Event{Kind: 4, Id: 4})
}

// tale is a game of two, from its tickets to its end, with what else may come; each event is right. It is told by a server itself,
// of which tickets and tokens are taken.
func tale(t *testing.T) []reel.Event {
	t.Helper()
	s := fresh(t)
	tokens := map[uint32]string{}
	var l []reel.Event
	do := func(e reel.Event) reel.Answer {
		a := direct(s, e)
		l = append(l, e)
		for _, x := range a.Sends {
			r := frame.New()
			frames, _ := r.Feed(x.Bytes)
			for _, b := range frames {
				if m, e := verb.Decode(b); e == api.OK && m.Kind == api.KSeat {
					tokens[x.To] = m.S[0]
				}
			}
		}
		return a
	}
	ask := func(conn uint32, m verb.Msg) { do(reel.Event{Kind: 5, Id: conn, Bytes: wrapped(m)}) }
	host := func(m verb.Msg) { do(reel.Event{Kind: 6, Id: 1, Bytes: wrapped(m)}) }

	do(reel.Event{Kind: 2, Number: 1 << 40})
	host(verb.Make(api.KHello))
	for _, player := range []uint32{7, 8, 9} {
		ticket := do(reel.Event{Kind: 1, Id: player, Number: uint64(player)}).Ticket
		do(reel.Event{Kind: 3, Id: player})
		ask(player, verb.Make(api.KLogin).With(ticket))
	}
	ask(7, verb.Make(api.KFriendAsk, 9))
	ask(9, verb.Make(api.KFriendAccept, 7))
	ask(7, verb.Make(api.KQueue, 0))
	ask(8, verb.Make(api.KQueue, 0))
	do(reel.Event{Kind: 7, Number: 1})
	ask(7, verb.Make(api.KAccept))
	ask(8, verb.Make(api.KAccept))
	host(verb.Make(api.KUp))
	host(verb.Make(api.KCome).With(tokens[7]))
	host(verb.Make(api.KCome).With(tokens[7]))
	host(verb.Make(api.KCome).With(tokens[8]))
	do(reel.Event{Kind: 8, Id: 7, Number: 20})
	host(verb.Make(api.KLeft, 8))
	do(reel.Event{Kind: 7, Number: 2})
	host(verb.Make(api.KResult, 1, 1))
	host(verb.Make(api.KFreed))
	do(reel.Event{Kind: 4, Id: 8})
	ask(9, verb.Make(api.KRating, 7))
	do(reel.Event{Kind: 5, Id: 9, Bytes: []byte{0, 0}})
	do(reel.Event{Kind: 7, Number: 1 << 50})
	if x, is := s.See(7); !is || x.Rating != 1516 {
		t.Fatalf("the tale ends with %v", x)
	}
	return l
}

// P27.2: an event that is not right is answered by ErrRange, and nothing happens, wherever in a game it comes.
func TestPlayWrong(t *testing.T) {
	var wrong []reel.Event
	for _, e := range events() {
		if !right(e) {
			wrong = append(wrong, e)
		}
	}
	a, b := fresh(t), fresh(t)
	l := tale(t)
	for i, e := range l {
		for j := i; j < len(wrong); j += len(l) {
			w := wrong[j]
			if got := reel.Play(a, w); !reflect.DeepEqual(got, reel.Answer{Err: api.ErrRange}) {
				t.Fatalf("(%d, %d, %d, %d bytes): %v", w.Kind, w.Id, w.Number, len(w.Bytes), got)
			}
		}
		for _, w := range spoilt(e) {
			if got := reel.Play(a, w); !reflect.DeepEqual(got, reel.Answer{Err: api.ErrRange}) {
				t.Fatalf("(%d, %d, %d, %d bytes): %v", w.Kind, w.Id, w.Number, len(w.Bytes), got)
			}
		}
		if got, want := reel.Play(a, e), direct(b, e); !alike(got, want) {
			t.Fatalf("%d: %v\n got %v\nwant %v", i, e, got, want)
		}
	}
}

// spoilt is an event, with more than it may have.
func spoilt(e reel.Event) []reel.Event {
	var l []reel.Event
	for _, change := range []func(*reel.Event){
		func(e *reel.Event) { e.Id++ },
		func(e *reel.Event) { e.Number++ },
		func(e *reel.Event) { e.Bytes = append(bytes.Clone(e.Bytes), 0) },
		func(e *reel.Event) { e.Bytes = append(bytes.Clone(e.Bytes), make([]byte, 65536)...) },
		func(e *reel.Event) { e.Kind += 256 },
		func(e *reel.Event) { e.Kind -= 256 },
	} {
		w := e
		change(&w)
		if !right(w) {
			l = append(l, w)
		}
	}
	return l
}

// P27.2, R4: what is handed in to Play is not changed and not kept, and its answers share no memory with anything.
func TestPlayMemory(t *testing.T) {
	a, b := fresh(t), fresh(t)
	for i, e := range tale(t) {
		in := append(make([]byte, 0, len(e.Bytes)+8), e.Bytes...)
		got := reel.Play(a, reel.Event{Kind: e.Kind, Id: e.Id, Number: e.Number, Bytes: in})
		if !bytes.Equal(in, e.Bytes) {
			t.Fatalf("%d: what was handed in is changed", i)
		}
		blot(in)
		if want := direct(b, e); !alike(got, want) {
			t.Fatalf("%d: %v\n got %v\nwant %v", i, e, got, want)
		}
		for _, x := range got.Sends {
			blot(x.Bytes)
		}
	}
	l := []reel.Answer{{Ticket: "ab", Sends: []server.Send{{Bytes: []byte{1, 2}}}}}
	x, y := reel.Tell(l...), reel.Tell(l...)
	blot(x)
	blot(l[0].Sends[0].Bytes)
	if !bytes.Equal(y, []byte{0, 2, 'a', 'b', 0, 1, 0, 0, 0, 0, 0, 0, 0, 0, 0, 2, 1, 2}) {
		t.Errorf("Tell: %v", y)
	}
}
