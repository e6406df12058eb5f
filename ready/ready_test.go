package ready_test

import (
	"math"
	"math/rand"
	"runtime"
	"slices"
	"testing"

	"tiltyard/api"
	"tiltyard/ready"
)

const last = 1<<31 - 1

// ids are some at their edges, wrong are numbers that are none; times are those at the edges of their type, and some between.
var (
	ids   = []uint32{1, 2, 3, 255, 65536, 1 << 30, last - 1, last}
	wrong = []uint32{0, 1 << 31, 1<<31 + 1, 1<<31 + 7, math.MaxUint32 - 1, math.MaxUint32}
	times = []int64{math.MinInt64, math.MinInt64 + 1, -1, 0, 1, 9, math.MaxInt64 - 1, math.MaxInt64}
)

// of is a check of some players till 9, of whom nobody has said yes.
func of(id uint32, players ...uint32) ready.Check {
	return ready.Check{Id: id, Players: players, Until: 9}
}

// yes is a check of whose players some have said yes.
func yes(c ready.Check, players ...uint32) ready.Check {
	c.Yes = players
	return c
}

// till is a check that waits until another time.
func till(until int64, c ready.Check) ready.Check {
	c.Until = until
	return c
}

// run are so many players, from one on.
func run(first uint32, many int) []uint32 {
	l := make([]uint32, many)
	for i := range l {
		l[i] = first + uint32(i)
	}
	return l
}

// with is a room for so many checks, in which these are.
func with(most int, checks ...ready.Check) *ready.Room {
	r := ready.New(most)
	for _, c := range checks {
		r.Open(c.Id, c.Until, c.Players...)
		for _, player := range c.Yes {
			r.Accept(player)
		}
	}
	return r
}

// same tells whether two checks are the same.
func same(a, b ready.Check) bool {
	return a.Id == b.Id && slices.Equal(a.Players, b.Players) && slices.Equal(a.Yes, b.Yes) && a.Until == b.Until
}

// all are the checks of a room.
func all(r *ready.Room) []ready.Check {
	var l []ready.Check
	for _, id := range r.Ids() {
		c, _ := r.Check(id)
		l = append(l, c)
	}
	return l
}

// holds tells whether a room has just these checks, which rise, whatever is asked of it.
func holds(r *ready.Room, checks ...ready.Check) bool {
	var there []uint32
	at := map[uint32]uint32{}
	for _, c := range checks {
		there = append(there, c.Id)
		for _, player := range c.Players {
			at[player] = c.Id
		}
		if got, is := r.Check(c.Id); !is || !same(got, c) {
			return false
		}
	}
	for _, c := range checks {
		for _, player := range c.Players {
			if r.Of(player) != c.Id {
				return false
			}
		}
	}
	for _, id := range slices.Concat(there, ids, wrong) {
		for _, near := range []uint32{id - 1, id, id + 1} {
			got, is := r.Check(near)
			if !slices.Contains(there, near) && (is || !same(got, ready.Check{})) || r.Of(near) != at[near] {
				return false
			}
		}
	}
	return slices.Equal(r.Ids(), there)
}

// has fails unless a room has just these checks.
func has(t *testing.T, r *ready.Room, checks ...ready.Check) {
	t.Helper()
	if !holds(r, checks...) {
		t.Errorf("%v, not %v", all(r), checks)
	}
}

// opens fails unless a check is opened, with this error.
func opens(t *testing.T, r *ready.Room, c ready.Check, e api.Errno) {
	t.Helper()
	if got := r.Open(c.Id, c.Until, c.Players...); got != e {
		t.Errorf("%v: %d, not %d", c, got, e)
	}
}

// accepts fails unless a player says yes, and just this is answered.
func accepts(t *testing.T, r *ready.Room, player uint32, c ready.Check, over bool, e api.Errno) {
	t.Helper()
	if got, was, n := r.Accept(player); !same(got, c) || was != over || n != e {
		t.Errorf("%d says yes: %v %v %d, not %v %v %d", player, got, was, n, c, over, e)
	}
}

// declines fails unless a player says no, and just this is answered.
func declines(t *testing.T, r *ready.Room, player uint32, c ready.Check, e api.Errno) {
	t.Helper()
	if got, n := r.Decline(player); !same(got, c) || n != e {
		t.Errorf("%d says no: %v %d, not %v %d", player, got, n, c, e)
	}
}

// closes fails unless a check is closed, and just this is answered.
func closes(t *testing.T, r *ready.Room, id uint32, c ready.Check, was bool) {
	t.Helper()
	if got, is := r.Close(id); !same(got, c) || is != was {
		t.Errorf("%d is closed: %v %v, not %v %v", id, got, is, c, was)
	}
}

// P20.1

func TestMissing(t *testing.T) {
	for _, c := range []struct{ players, yes, want []uint32 }{
		{nil, nil, nil},
		{[]uint32{}, []uint32{}, nil},
		{[]uint32{5}, nil, []uint32{5}},
		{[]uint32{5}, []uint32{5}, nil},
		{[]uint32{5, 3, 9}, nil, []uint32{5, 3, 9}},
		{[]uint32{5, 3, 9}, []uint32{3}, []uint32{5, 9}},
		{[]uint32{5, 3, 9}, []uint32{9, 5}, []uint32{3}},
		{[]uint32{5, 3, 9}, []uint32{5, 9}, []uint32{3}},
		{[]uint32{9, 5, 3}, []uint32{5}, []uint32{9, 3}},
		{[]uint32{5, 3, 9}, []uint32{9, 3, 5}, nil},
		{[]uint32{8, 7, 6, 5, 4, 3, 2, 1}, []uint32{2, 7, 4}, []uint32{8, 6, 5, 3, 1}},
		// A check that no room made may be anything.
		{nil, []uint32{5}, nil},
		{[]uint32{5, 3}, []uint32{4, 6, 0, 9}, []uint32{5, 3}},
		{[]uint32{5, 3, 5}, []uint32{3, 3}, []uint32{5, 5}},
		{[]uint32{5, 3, 5}, []uint32{5}, []uint32{3}},
		{[]uint32{0, math.MaxUint32, 1 << 31}, []uint32{1 << 31, 0}, []uint32{math.MaxUint32}},
		{run(1, 2000), run(2, 1998), []uint32{1, 2000}},
	} {
		if got := (ready.Check{Id: 1, Players: c.players, Yes: c.yes, Until: 7}).Missing(); !slices.Equal(got, c.want) {
			t.Errorf("%v of %v: %v, not %v", c.yes, c.players, got, c.want)
		}
	}
}

// A check of any size is told in no time.
func TestMissingIsNotLong(t *testing.T) {
	const many = 300000
	players := run(1, many)
	said := run(2, many)
	slices.Reverse(said)
	if got := yes(of(1, players...), said...).Missing(); !slices.Equal(got, []uint32{1}) {
		t.Errorf("%d of them", len(got))
	}
}

func TestNew(t *testing.T) {
	for _, most := range []int{math.MinInt, -1 << 31, -2, -1, 0, 1, 2, 3, 16, 100} {
		r := ready.New(most)
		if r == nil || !holds(r) {
			t.Fatalf("a room of %d is not empty", most)
		}
		for i := range uint32(max(most, 0)) {
			opens(t, r, of(i+1, 1000+i), api.OK)
		}
		for range 2 {
			opens(t, r, of(999, 999), api.ErrFull)
			if len(r.Ids()) != max(most, 0) {
				t.Errorf("a room of %d has %d checks", most, len(r.Ids()))
			}
		}
	}
}

func TestARoomForManyTakesNoRoomAhead(t *testing.T) {
	before := inUse()
	r := ready.New(math.MaxInt)
	opens(t, r, of(1, 2, 3), api.OK)
	if more := inUse() - before; more > 1<<20 || !holds(r, of(1, 2, 3)) {
		t.Errorf("%d bytes of memory", more)
	}
}

func TestTheExample(t *testing.T) {
	r := ready.New(4)
	opens(t, r, of(3, 5, 6), api.OK)
	accepts(t, r, 5, yes(of(3, 5, 6), 5), false, api.OK)
	accepts(t, r, 6, yes(of(3, 5, 6), 5, 6), true, api.OK)
	if r.Of(5) != 0 || r.Of(6) != 0 {
		t.Error("they are in a check")
	}
	has(t, r)
}

func TestOpen(t *testing.T) {
	for _, id := range ids {
		for _, until := range times {
			for many := 1; many <= len(ids); many++ {
				r := ready.New(1)
				c := till(until, of(id, ids[:many]...))
				opens(t, r, c, api.OK)
				has(t, r, c)
			}
		}
	}
	// The players stand in their order, whatever it is.
	r := ready.New(3)
	opens(t, r, of(7, 5, 1, 9, 3), api.OK)
	opens(t, r, of(2, 8, 7), api.OK)
	opens(t, r, of(4, 4), api.OK)
	has(t, r, of(2, 8, 7), of(4, 4), of(7, 5, 1, 9, 3))
}

// rooms are an empty room, one without room, and some in which checks are.
func rooms() []*ready.Room {
	return []*ready.Room{ready.New(4), ready.New(0), with(1, of(1, 1, 2)), with(3, yes(of(2, 1, 2, 3), 2), of(5, 9))}
}

func TestOpenOfWhatIsNoId(t *testing.T) {
	for _, r := range rooms() {
		before := all(r)
		for _, no := range wrong {
			// Whatever else is wrong: how many they are, or that one is in a check, or stands twice.
			for _, c := range []ready.Check{of(no, 7), of(no), of(no, no), of(no, run(11, 9)...), of(no, 1), of(no, 7, 7), of(7, no), of(1, no), of(7, no, 8), of(7, 8, no), of(7, 1, no), of(7, no, no), of(7, append(run(11, 9), no)...), of(7, append(run(11, 7), no)...)} {
				opens(t, r, c, api.ErrId)
			}
		}
		has(t, r, before...)
	}
}

func TestOpenOfAWrongSize(t *testing.T) {
	for _, r := range rooms() {
		before := all(r)
		for _, id := range []uint32{1, 2, 5, 7} {
			for _, players := range [][]uint32{nil, {}, run(11, 9), run(11, 10), run(11, 300), run(1, 9), {7, 7, 7, 7, 7, 7, 7, 7, 7}} {
				opens(t, r, of(id, players...), api.ErrSize)
			}
		}
		has(t, r, before...)
	}
	r := ready.New(2)
	opens(t, r, of(1, run(11, 8)...), api.OK)
	opens(t, r, of(2, 7), api.OK)
}

func TestOpenOfWhatIsThere(t *testing.T) {
	// A full room answers so, too.
	for _, most := range []int{2, 3} {
		r := with(most, yes(of(2, 1, 2, 3), 2), of(5, 9))
		for _, c := range []ready.Check{
			of(2, 7), of(5, 7), of(2, 1), of(2, 1, 2, 3),
			of(7, 1), of(7, 2), of(7, 3), of(7, 9), of(7, 8, 9), of(7, 9, 8), of(7, 11, 12, 13, 14, 15, 16, 17, 3),
			of(7, 8, 8), of(7, 8, 11, 8), of(7, 11, 8, 8), of(7, 11, 12, 13, 14, 15, 16, 17, 11), of(7, 11, 12, 13, 14, 15, 16, 17, 17),
		} {
			opens(t, r, c, api.ErrExists)
		}
		has(t, r, yes(of(2, 1, 2, 3), 2), of(5, 9))
	}
	opens(t, ready.New(0), of(7, 8, 8), api.ErrExists)
	// What has ended is there no more.
	r := with(3, of(2, 1, 2), of(4, 3), of(5, 6, 7))
	accepts(t, r, 3, yes(of(4, 3), 3), true, api.OK)
	declines(t, r, 6, of(5, 6, 7), api.OK)
	closes(t, r, 2, of(2, 1, 2), true)
	opens(t, r, of(4, 1, 3, 7), api.OK)
	opens(t, r, of(5, 2, 6), api.OK)
	has(t, r, of(4, 1, 3, 7), of(5, 2, 6))
}

func TestOpenInTheFull(t *testing.T) {
	r := with(2, of(2, 1, 2), of(5, 9))
	for _, c := range []ready.Check{of(1, 7), of(7, 7, 8), of(last, run(11, 8)...)} {
		opens(t, r, c, api.ErrFull)
	}
	has(t, r, of(2, 1, 2), of(5, 9))
	// With one less there is room for one more, however the one ended.
	for _, ends := range []func(){
		func() { closes(t, r, 2, of(2, 1, 2), true) },
		func() { declines(t, r, 2, of(2, 1, 2), api.OK) },
		func() {
			accepts(t, r, 1, yes(of(2, 1, 2), 1), false, api.OK)
			accepts(t, r, 2, yes(of(2, 1, 2), 1, 2), true, api.OK)
		},
	} {
		ends()
		has(t, r, of(5, 9))
		opens(t, r, of(2, 1, 2), api.OK)
		opens(t, r, of(3, 6), api.ErrFull)
		has(t, r, of(2, 1, 2), of(5, 9))
	}
}

// P20.2

// Whatever the order in which they say yes, it is over with the last of them, and not ahead of that.
func TestAccept(t *testing.T) {
	r := rand.New(rand.NewSource(1))
	for many := 1; many <= 8; many++ {
		for range 20 {
			players := run(11, many)
			r.Shuffle(many, func(i, j int) { players[i], players[j] = players[j], players[i] })
			order := slices.Clone(players)
			r.Shuffle(many, func(i, j int) { order[i], order[j] = order[j], order[i] })
			m := with(3, of(3, players...), of(5, 1, 2))
			for i, player := range order {
				c := yes(of(3, players...), order[:i+1]...)
				accepts(t, m, player, c, i == many-1, api.OK)
				if i < many-1 {
					has(t, m, c, of(5, 1, 2))
				}
			}
			has(t, m, of(5, 1, 2))
		}
	}
}

func TestAcceptTwice(t *testing.T) {
	r := with(1, of(3, 5, 6, 7))
	for i, player := range []uint32{6, 5} {
		c := yes(of(3, 5, 6, 7), []uint32{6, 5}[:i+1]...)
		accepts(t, r, player, c, false, api.OK)
		for _, again := range c.Yes {
			accepts(t, r, again, ready.Check{}, false, api.ErrExists)
		}
		has(t, r, c)
	}
	// Behind its end there is nothing to say yes to.
	r.Accept(7)
	for _, player := range []uint32{5, 6, 7} {
		accepts(t, r, player, ready.Check{}, false, api.ErrMissing)
	}
}

// A yes is for one check, not for a later one.
func TestANewCheckHasNoYes(t *testing.T) {
	for _, ends := range []func(r *ready.Room){
		func(r *ready.Room) { r.Close(3) }, func(r *ready.Room) { r.Decline(6) }, func(r *ready.Room) { r.Decline(5) }, func(r *ready.Room) { r.Accept(6) },
	} {
		r := with(1, yes(of(3, 5, 6), 5))
		ends(r)
		opens(t, r, of(3, 6, 5), api.OK)
		has(t, r, of(3, 6, 5))
		accepts(t, r, 5, yes(of(3, 6, 5), 5), false, api.OK)
	}
}

// Whoever is in the check may decline, having said yes or not.
func TestDecline(t *testing.T) {
	for _, c := range []ready.Check{of(3, 5), of(3, 5, 6), yes(of(3, 5, 6), 5), yes(of(3, 5, 6), 6), yes(of(3, 7, 5, 1, 6), 6, 7, 5), till(math.MinInt64, of(3, 6, 5))} {
		for _, player := range c.Players {
			r := with(2, c, yes(of(4, 8, 9), 9))
			declines(t, r, player, c, api.OK)
			has(t, r, yes(of(4, 8, 9), 9))
			for _, other := range c.Players {
				declines(t, r, other, ready.Check{}, api.ErrMissing)
				accepts(t, r, other, ready.Check{}, false, api.ErrMissing)
			}
			closes(t, r, c.Id, ready.Check{}, false)
		}
	}
}

func TestWhoIsInNoCheck(t *testing.T) {
	r := with(3, of(3, 5, 6), yes(of(8, 9, 1), 1))
	for _, player := range slices.Concat([]uint32{2, 3, 4, 7, 8, 10, last}, wrong) {
		accepts(t, r, player, ready.Check{}, false, api.ErrMissing)
		declines(t, r, player, ready.Check{}, api.ErrMissing)
	}
	has(t, r, of(3, 5, 6), yes(of(8, 9, 1), 1))
}

func TestClose(t *testing.T) {
	for _, c := range []ready.Check{of(3, 5), of(3, 5, 6), yes(of(3, 5, 6), 6), till(math.MaxInt64, yes(of(3, 7, 5, 1, 6), 6, 7, 5))} {
		r := with(2, c, yes(of(4, 8, 9), 9))
		for _, id := range slices.Concat([]uint32{1, 2, 5, 6, 8, 9, last}, wrong) {
			closes(t, r, id, ready.Check{}, false)
		}
		has(t, r, c, yes(of(4, 8, 9), 9))
		closes(t, r, 3, c, true)
		closes(t, r, 3, ready.Check{}, false)
		has(t, r, yes(of(4, 8, 9), 9))
		closes(t, r, 4, yes(of(4, 8, 9), 9), true)
		has(t, r)
	}
}

// The time until which it waits ends nothing by itself.
func TestTimesDoNotCount(t *testing.T) {
	for _, until := range times {
		r := with(1, till(until, of(3, 5, 6)))
		accepts(t, r, 5, yes(till(until, of(3, 5, 6)), 5), false, api.OK)
		accepts(t, r, 6, yes(till(until, of(3, 5, 6)), 5, 6), true, api.OK)
	}
}

// P20.3

func TestNilRoom(t *testing.T) {
	var r *ready.Room
	for _, id := range slices.Concat(ids, wrong) {
		// Whatever else is wrong.
		for _, players := range [][]uint32{nil, {1}, {id}, {1, 1}, run(1, 9)} {
			opens(t, r, of(id, players...), api.ErrFull)
		}
		accepts(t, r, id, ready.Check{}, false, api.ErrMissing)
		declines(t, r, id, ready.Check{}, api.ErrMissing)
		closes(t, r, id, ready.Check{}, false)
	}
	has(t, r)
}

func TestIdsRise(t *testing.T) {
	x := rand.New(rand.NewSource(3))
	const many = 300
	r := ready.New(many)
	var want []uint32
	for i := range uint32(many) {
		want = append(want, 3*i+1)
	}
	for _, i := range x.Perm(many) {
		opens(t, r, of(want[i], 2000+want[i], 1000+want[i]), api.OK)
	}
	for _, i := range x.Perm(many)[:many/2] {
		gone := uint32(3*i + 1)
		closes(t, r, gone, of(gone, 2000+gone, 1000+gone), true)
		want = slices.DeleteFunc(want, func(id uint32) bool { return id == gone })
	}
	var checks []ready.Check
	for _, id := range want {
		checks = append(checks, of(id, 2000+id, 1000+id))
	}
	has(t, r, checks...)
}

// P20.4

// step is something that is done: what is opened, or who says what, or what is closed.
type step struct {
	what    string
	id      uint32
	players []uint32
	until   int64
}

// answer is what is answered to a step; what a call does not answer is nothing.
type answer struct {
	c  ready.Check
	is bool
	e  api.Errno
}

// do does a step.
func (s step) do(r *ready.Room) answer {
	var a answer
	switch s.what {
	case "open":
		a.e = r.Open(s.id, s.until, s.players...)
	case "accept":
		a.c, a.is, a.e = r.Accept(s.id)
	case "decline":
		a.c, a.e = r.Decline(s.id)
	case "close":
		a.c, a.is = r.Close(s.id)
	}
	return a
}

// model is what the chapter says of a room, by a list of checks alone.
type model struct {
	most   int
	checks []ready.Check
}

// find is the place of the check of which something holds, or -1.
func (m *model) find(holds func(ready.Check) bool) int { return slices.IndexFunc(m.checks, holds) }

// in is the place of the check in which a player is, or -1.
func (m *model) in(player uint32) int {
	return m.find(func(c ready.Check) bool { return slices.Contains(c.Players, player) })
}

// take takes a check away.
func (m *model) take(place int) ready.Check {
	c := m.checks[place]
	m.checks = slices.Concat(m.checks[:place], m.checks[place+1:])
	return c
}

// open does an open.
func (m *model) open(s step) answer {
	twice, id := false, s.id < 1 || s.id > last
	for i, player := range s.players {
		id = id || player < 1 || player > last
		twice = twice || slices.Contains(s.players[i+1:], player) || m.in(player) >= 0
	}
	switch {
	case id:
		return answer{e: api.ErrId}
	case len(s.players) == 0 || len(s.players) > 8:
		return answer{e: api.ErrSize}
	case twice || m.find(func(c ready.Check) bool { return c.Id == s.id }) >= 0:
		return answer{e: api.ErrExists}
	case len(m.checks) >= m.most:
		return answer{e: api.ErrFull}
	}
	m.checks = append(m.checks, ready.Check{Id: s.id, Players: s.players, Until: s.until})
	slices.SortFunc(m.checks, func(a, b ready.Check) int { return int(a.Id) - int(b.Id) })
	return answer{}
}

// accept does an accept: it is over, if each of its players has said yes, once.
func (m *model) accept(s step) answer {
	place := m.in(s.id)
	switch {
	case place < 0:
		return answer{e: api.ErrMissing}
	case slices.Contains(m.checks[place].Yes, s.id):
		return answer{e: api.ErrExists}
	}
	c := m.checks[place]
	c.Yes = slices.Concat(c.Yes, []uint32{s.id})
	m.checks[place] = c
	if !slices.Equal(slices.Sorted(slices.Values(c.Yes)), slices.Sorted(slices.Values(c.Players))) {
		return answer{c: c}
	}
	return answer{c: m.take(place), is: true}
}

// do does a step in the model, and is what shall be answered.
func (m *model) do(s step) answer {
	switch s.what {
	case "open":
		return m.open(s)
	case "accept":
		return m.accept(s)
	case "decline":
		if place := m.in(s.id); place >= 0 {
			return answer{c: m.take(place)}
		}
		return answer{e: api.ErrMissing}
	}
	if place := m.find(func(c ready.Check) bool { return c.Id == s.id }); place >= 0 {
		return answer{c: m.take(place), is: true}
	}
	return answer{}
}

// try does a step in both, and fails unless both answer the same, and are the same.
func (m *model) try(t *testing.T, r *ready.Room, s step) answer {
	t.Helper()
	got, want := s.do(r), m.do(s)
	if !same(got.c, want.c) || got.is != want.is || got.e != want.e || !holds(r, m.checks...) {
		t.Fatalf("%v: %v, not %v; %v, not %v", s, got, want, all(r), m.checks)
	}
	return got
}

// Whatever is done with a few players and checks, up to five things, one behind the other.
func TestAllThatAFewDo(t *testing.T) {
	some := []step{
		{what: "open", id: 1, players: []uint32{1, 2}, until: 4}, {what: "open", id: 2, players: []uint32{2, 3}, until: 5}, {what: "open", id: 2, players: []uint32{3}, until: 6},
		{what: "accept", id: 1}, {what: "accept", id: 2}, {what: "accept", id: 3},
		{what: "decline", id: 2}, {what: "close", id: 1}, {what: "close", id: 2},
	}
	ways := len(some) * len(some) * len(some) * len(some) * len(some)
	for way := range ways {
		m, r := &model{most: 1 + way%2}, ready.New(1+way%2)
		for range 5 {
			m.try(t, r, some[way%len(some)])
			way /= len(some)
		}
	}
}

// chance is a step by chance.
func chance(r *rand.Rand, most, many int) step {
	id := uint32(1 + r.Intn(many))
	if r.Intn(60) == 0 {
		id = wrong[r.Intn(len(wrong))]
	}
	switch r.Intn(8) {
	case 0, 1:
		var players []uint32
		for range 1 + r.Intn(4) {
			players = append(players, uint32(1+r.Intn(many)))
		}
		switch r.Intn(40) {
		case 0:
			players = run(uint32(1+r.Intn(many)), r.Intn(11))
		case 1:
			players[0] = wrong[r.Intn(len(wrong))]
		}
		return step{what: "open", id: uint32(1 + r.Intn(most+2)), players: players, until: times[r.Intn(len(times))]}
	case 2:
		return step{what: []string{"decline", "close"}[r.Intn(2)], id: id}
	}
	return step{what: "accept", id: id}
}

func TestAsTheModelIs(t *testing.T) {
	for _, c := range []struct{ most, many int }{{0, 3}, {1, 4}, {2, 6}, {4, 20}, {16, 40}} {
		x := rand.New(rand.NewSource(int64(c.most*100 + c.many)))
		m, r := &model{most: c.most}, ready.New(c.most)
		crowded, over, errors := 0, 0, [28]int{}
		for range 12000 {
			s := chance(x, c.most, c.many)
			a := m.try(t, r, s)
			crowded = max(crowded, len(m.checks))
			errors[a.e]++
			if s.what == "accept" && a.is {
				over++
			}
		}
		if c.most > 0 && (crowded < min(c.most, 8) || over < 200 || min(errors[api.ErrId], errors[api.ErrSize], errors[api.ErrExists], errors[api.ErrMissing]) < 5) {
			t.Errorf("of %d there were %d checks at most, %d were over by yeses; errors %v", c.most, crowded, over, errors)
		}
	}
}

// The room's ways: the calls of the rack that is embedded in it are its own, but for those that it has itself.

func TestTheRacksCallsAreTheRooms(t *testing.T) {
	r := with(4, of(1, 1, 2), of(2, 9), yes(of(3, 5, 6), 6))
	r.Close(2)
	next, is := r.Next(1)
	if r.Len() != 2 || r.Most() != 4 || r.Free() != 2 || next != 3 || !is || !slices.Equal(r.Ids(), r.Rack.Ids()) {
		t.Errorf("%d of %d, free %d, behind 1 stands %d", r.Len(), r.Most(), r.Free(), next)
	}
	// What is dropped so is there no more, whoever was in it.
	if _, was := r.Drop(1); !was {
		t.Error("1 was not there")
	}
	has(t, r, yes(of(3, 5, 6), 6))
}

// What the rack hands out stays as it was, whatever becomes of the check.
func TestWhatTheRackHandsOutStays(t *testing.T) {
	r := with(2, yes(of(1, 1, 2, 3, 4), 2))
	kept, _ := r.Get(1)
	r.Accept(3)
	more, _ := r.Get(1)
	r.Accept(1)
	has(t, r, yes(of(1, 1, 2, 3, 4), 2, 3, 1))
	r.Put(1, kept)
	has(t, r, yes(of(1, 1, 2, 3, 4), 2))
	// Nor does what comes behind the one show in the other one.
	r.Accept(4)
	r.Put(1, more)
	has(t, r, yes(of(1, 1, 2, 3, 4), 2, 3))
	r.Accept(1)
	r.Put(1, more)
	r.Accept(4)
	has(t, r, yes(of(1, 1, 2, 3, 4), 2, 3, 4))
}

// The rules R2, R4 and R6, and what is kept

// What is refused changes nothing.
func TestAnErrorChangesNothing(t *testing.T) {
	before := []ready.Check{yes(of(2, 1, 2, 3), 3, 1), of(5, 9), yes(of(6, 7, 8), 7)}
	r := with(3, before...)
	refused := 0
	for _, s := range []step{
		{what: "accept", id: 3}, {what: "accept", id: 1}, {what: "accept", id: 7}, {what: "accept", id: 4}, {what: "accept"}, {what: "accept", id: 1 << 31},
		{what: "decline", id: 4}, {what: "decline"}, {what: "decline", id: last}, {what: "decline", id: math.MaxUint32},
		{what: "open", id: 9, players: []uint32{11}}, {what: "open", id: 2, players: []uint32{11}}, {what: "open", id: 9, players: []uint32{11, 8}}, {what: "open", id: 9, players: []uint32{11, 11}},
		{what: "open", id: 9}, {what: "open", id: 9, players: run(11, 9)}, {what: "open", players: []uint32{11}}, {what: "open", id: 9, players: []uint32{11, 0}},
	} {
		if a := s.do(r); a.e == api.OK || a.is || !same(a.c, ready.Check{}) || !holds(r, before...) {
			t.Errorf("%v: %v, %v", s, a, all(r))
		}
		refused++
	}
	if refused != 18 {
		t.Errorf("%d steps", refused)
	}
}

// blot writes into a list, and as far behind it as its memory goes.
func blot(l []uint32) {
	l = l[:cap(l)]
	for i := range l {
		l[i] = 99
	}
}

func TestWhatIsHandedInIsNotKept(t *testing.T) {
	r := ready.New(1)
	players := append(make([]uint32, 0, 8), 5, 3, 9)
	opens(t, r, of(4, players...), api.OK)
	if !slices.Equal(players[:8], []uint32{5, 3, 9, 0, 0, 0, 0, 0}) {
		t.Errorf("%v", players)
	}
	blot(players)
	has(t, r, of(4, 5, 3, 9))
	accepts(t, r, 3, yes(of(4, 5, 3, 9), 3), false, api.OK)
}

func TestMissingChangesNothing(t *testing.T) {
	c := yes(of(4, 5, 3, 9, 1), 9, 1, 3)
	got, again := c.Missing(), c.Missing()
	blot(got)
	if !same(c, yes(of(4, 5, 3, 9, 1), 9, 1, 3)) || !slices.Equal(again, []uint32{5}) {
		t.Errorf("%v, %v", c, again)
	}
	// Where all are missing, and where nobody is, no memory is shared, either.
	for _, c := range []ready.Check{of(4, 5, 3), yes(of(4, 5, 3), 5, 3)} {
		want := yes(of(4, slices.Clone(c.Players)...), slices.Clone(c.Yes)...)
		blot(append(c.Missing(), 7))
		if !same(c, want) {
			t.Errorf("%v, not %v", c, want)
		}
	}
}

// answered are all checks that a room answers behind one another.
func answered(r *ready.Room) []ready.Check {
	a, _, _ := r.Accept(9)
	b, _, _ := r.Accept(5)
	c, _ := r.Check(4)
	d, _ := r.Check(4)
	e, _, _ := r.Accept(3)
	r.Open(4, 9, 1, 5, 3)
	r.Accept(3)
	f, _ := r.Decline(5)
	r.Open(4, 9, 1, 5, 3)
	r.Accept(1)
	g, _ := r.Close(4)
	return []ready.Check{a, b, c, d, e, f, g}
}

func TestAnswersAreTheirOwn(t *testing.T) {
	want := []ready.Check{
		yes(of(4, 5, 3, 9), 9), yes(of(4, 5, 3, 9), 9, 5), yes(of(4, 5, 3, 9), 9, 5), yes(of(4, 5, 3, 9), 9, 5), yes(of(4, 5, 3, 9), 9, 5, 3),
		yes(of(4, 1, 5, 3), 3), yes(of(4, 1, 5, 3), 1),
	}
	for spoilt := range want {
		l := answered(with(1, of(4, 5, 3, 9)))
		blot(append(l[spoilt].Players, 99))
		blot(l[spoilt].Players)
		if !slices.Equal(l[spoilt].Yes, want[spoilt].Yes) {
			t.Errorf("the lists of %v share", l[spoilt])
		}
		blot(append(l[spoilt].Yes, 99))
		blot(l[spoilt].Yes)
		for i := range want {
			if i != spoilt && !same(l[i], want[i]) {
				t.Errorf("%v, not %v", l[i], want[i])
			}
		}
	}
}

// What is written into an answer does not show in the room.
func TestAnswersAreNotTheRooms(t *testing.T) {
	r := with(3, yes(of(4, 5, 3, 9, 1), 9), of(2, 7))
	want := yes(of(4, 5, 3, 9, 1), 9, 5)
	a, _, _ := r.Accept(5)
	b, _ := r.Check(4)
	for _, list := range [][]uint32{a.Players, a.Yes, b.Players, b.Yes, r.Ids(), append(a.Yes, 3), append(b.Yes, 3), append(b.Players, 3)} {
		blot(list)
		has(t, r, of(2, 7), want)
	}
	accepts(t, r, 1, yes(of(4, 5, 3, 9, 1), 9, 5, 1), false, api.OK)
	accepts(t, r, 3, yes(of(4, 5, 3, 9, 1), 9, 5, 1, 3), true, api.OK)
}

func TestRoomsShareNothing(t *testing.T) {
	a, b := ready.New(2), ready.New(2)
	a.Open(1, 9, 1, 2)
	has(t, b)
	opens(t, b, of(1, 2, 1), api.OK)
	accepts(t, a, 1, yes(of(1, 1, 2), 1), false, api.OK)
	has(t, b, of(1, 2, 1))
	declines(t, b, 1, of(1, 2, 1), api.OK)
	has(t, a, yes(of(1, 1, 2), 1))
}

func TestToAskChangesNothing(t *testing.T) {
	want := []ready.Check{yes(of(4, 5, 3), 3), of(6, 7, 8)}
	r := with(4, want...)
	for range 5 {
		has(t, r, want...)
	}
}

// inUse is how much memory is in use.
func inUse() int64 {
	runtime.GC()
	var m runtime.MemStats
	runtime.ReadMemStats(&m)
	return int64(m.HeapAlloc)
}

func TestWhatIsOverIsNotKept(t *testing.T) {
	r := with(2, yes(of(1, last-1, last-2), last-2))
	before := inUse()
	for i := uint32(2); i < 100000; i++ {
		r.Open(i, int64(i), i, i+1)
		r.Accept(i)
		switch i % 3 {
		case 0:
			r.Accept(i + 1)
		case 1:
			r.Decline(i + 1)
		case 2:
			r.Close(i)
		}
		if len(r.Ids()) != 1 {
			t.Fatalf("%d: %v", i, all(r))
		}
	}
	if more := inUse() - before; more > 1<<18 {
		t.Errorf("%d bytes of memory", more)
	}
	has(t, r, yes(of(1, last-1, last-2), last-2))
}
