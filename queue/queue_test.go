package queue_test

import (
	"math"
	"math/rand"
	"runtime"
	"slices"
	"testing"

	"tiltyard/api"
	"tiltyard/plan"
	"tiltyard/queue"
)

const (
	least = math.MinInt64
	most  = math.MaxInt64
	last  = 1<<31 - 1
)

// ids are some at their edges, wrong are numbers that are none; times are those at the edges of their type, and some between.
var (
	ids   = []uint32{1, 2, 3, 255, 65536, 1 << 30, last - 1, last}
	wrong = []uint32{0, 1 << 31, 1<<31 + 1, 1<<31 + 7, math.MaxUint32 - 1, math.MaxUint32}
	times = []int64{least, least + 1, -1 << 40, -1, 0, 1, 7, 1 << 40, most - 1, most}
)

// of is an empty queue of modes for teams of these sizes.
func of(sizes ...int) *queue.Queue {
	var modes []plan.Mode
	for _, k := range sizes {
		modes = append(modes, plan.Mode{K: k, Every: 1})
	}
	return queue.New(plan.Usual(modes...))
}

// ticket is one of the mode 0, since 0.
func ticket(id uint32, players ...uint32) queue.Ticket {
	return queue.Ticket{Id: id, Players: players}
}

// in is a ticket in another mode.
func in(mode int, t queue.Ticket) queue.Ticket {
	t.Mode = mode
	return t
}

// since is a ticket that waits since another time.
func since(at int64, t queue.Ticket) queue.Ticket {
	t.Since = at
	return t
}

// rated is a ticket of another rating.
func rated(rating int, t queue.Ticket) queue.Ticket {
	t.Rating = rating
	return t
}

// copied is a ticket whose players are copied.
func copied(t queue.Ticket) queue.Ticket {
	t.Players = slices.Clone(t.Players)
	return t
}

// run are so many players, from one on.
func run(first uint32, many int) []uint32 {
	l := make([]uint32, many)
	for i := range l {
		l[i] = first + uint32(i)
	}
	return l
}

// same tells whether two tickets are the same.
func same(a, b queue.Ticket) bool {
	return a.Id == b.Id && a.Mode == b.Mode && slices.Equal(a.Players, b.Players) && a.Rating == b.Rating && a.Since == b.Since
}

// puts fails unless all of some tickets can be put.
func puts(t *testing.T, q *queue.Queue, l ...queue.Ticket) {
	t.Helper()
	for _, x := range l {
		fails(t, q, x, api.OK)
	}
}

// fails fails unless a ticket that is put answers an error.
func fails(t *testing.T, q *queue.Queue, x queue.Ticket, e api.Errno) {
	t.Helper()
	if got := q.Put(x); got != e {
		t.Errorf("%v: %d, not %d", x, got, e)
	}
}

// drops fails unless a ticket is dropped.
func drops(t *testing.T, q *queue.Queue, x queue.Ticket) {
	t.Helper()
	if got, was := q.Drop(x.Id); !was || !same(got, x) {
		t.Errorf("%v was dropped, not %v", got, x)
	}
}

// holds fails unless a queue has just these tickets, those of each mode in this order, whatever is asked of it.
func holds(t *testing.T, q *queue.Queue, l ...queue.Ticket) {
	t.Helper()
	modes := map[int][]queue.Ticket{}
	at, there := map[uint32]uint32{}, map[uint32]queue.Ticket{}
	for _, x := range l {
		modes[x.Mode] = append(modes[x.Mode], x)
		there[x.Id] = x
		for _, p := range x.Players {
			at[p] = x.Id
		}
	}
	for mode := -2; mode < 8; mode++ {
		if got := q.Mode(mode); !slices.EqualFunc(got, modes[mode], same) {
			t.Errorf("mode %d: %v, not %v", mode, got, modes[mode])
		}
	}
	for _, id := range slices.Concat(ids, wrong, run(0, 80)) {
		want, is := there[id]
		if got, was := q.Get(id); was != is || !same(got, want) {
			t.Errorf("%d: %v %v, not %v %v", id, got, was, want, is)
		}
		if got := q.Of(id); got != at[id] {
			t.Errorf("the player %d is in %d, not in %d", id, got, at[id])
		}
	}
	for id, want := range there {
		if got, is := q.Get(id); !is || !same(got, want) {
			t.Errorf("%d: %v %v, not %v", id, got, is, want)
		}
	}
	for player, want := range at {
		if got := q.Of(player); got != want {
			t.Errorf("the player %d is in %d, not in %d", player, got, want)
		}
	}
	if q.Len() != len(l) {
		t.Errorf("%d tickets, not %d", q.Len(), len(l))
	}
}

// P17.1

func TestTheExample(t *testing.T) {
	q := of(1)
	a, b, c := since(9, ticket(5, 1)), since(9, ticket(3, 2)), since(7, ticket(4, 3))
	puts(t, q, a, b, c)
	holds(t, q, c, b, a)
}

func TestNewIsEmpty(t *testing.T) {
	holds(t, of(1, 2, 3, 4))
	holds(t, queue.New(plan.Config{}))
}

// The modes of a config are the queue's, whatever else it says, be they right or not.
func TestModesWhateverElseTheConfigSays(t *testing.T) {
	for _, c := range []plan.Config{{}, plan.Usual(), {Key: "k", Conns: -1, Players: -1, Parties: -1, Instances: -1, Rate: -1, Out: -1}, {Players: 1, Conns: math.MaxInt}} {
		fails(t, queue.New(c), ticket(1, 7), api.ErrMode)
		c.Modes = []plan.Mode{{K: 2}, {K: -1}, {K: 0, Every: 1}, {K: 5, Every: 1}, {K: 300}, {K: math.MaxInt, Base: -1}, {K: math.MinInt}}
		q := queue.New(c)
		pair, five, many, more := ticket(1, 1, 2), in(3, ticket(2, run(11, 5)...)), in(4, ticket(3, run(101, 300)...)), in(5, ticket(4, run(1001, 1000)...))
		puts(t, q, pair, five, many, more)
		fails(t, q, ticket(9, 5, 6, 7), api.ErrSize)
		fails(t, q, in(3, ticket(9, run(5001, 6)...)), api.ErrSize)
		fails(t, q, in(4, ticket(9, run(5001, 301)...)), api.ErrSize)
		for _, mode := range []int{1, 2, 6} {
			fails(t, q, in(mode, ticket(9, 77)), api.ErrSize)
			fails(t, q, in(mode, ticket(9)), api.ErrSize)
		}
		for _, mode := range []int{math.MinInt, -1, 7, 8, 1<<31 - 1, math.MaxInt} {
			fails(t, q, in(mode, ticket(9, 77)), api.ErrMode)
		}
		holds(t, q, pair, five, many, more)
	}
}

func TestWhatIsNoId(t *testing.T) {
	for _, no := range wrong {
		q := of(4)
		fails(t, q, ticket(no, 7), api.ErrId)
		for _, players := range [][]uint32{{no}, {no, 1}, {1, no}, {1, 2, no, 3}, {1, 2, 3, no}, {no, no}, {1, 2, 3, 4, no}} {
			fails(t, q, ticket(1, players...), api.ErrId)
		}
		holds(t, q)
	}
	for _, id := range ids {
		q := of(4)
		x := ticket(id, ids[4:]...)
		puts(t, q, x)
		holds(t, q, x)
	}
}

func TestModesThatAreNotThere(t *testing.T) {
	q := of(1, 2)
	for _, mode := range []int{math.MinInt, -1 << 31, -2, -1, 2, 3, 256, 1 << 16, 1<<31 - 1, math.MaxInt} {
		fails(t, q, in(mode, ticket(1, 7)), api.ErrMode)
	}
	holds(t, q)
}

func TestSizes(t *testing.T) {
	for k := 1; k <= 4; k++ {
		q := of(4, k)
		for many := 0; many <= 6; many++ {
			x := in(1, ticket(1, run(10, many)...))
			if many == 0 || many > k {
				fails(t, q, x, api.ErrSize)
				holds(t, q)
				continue
			}
			puts(t, q, x)
			holds(t, q, x)
			drops(t, q, x)
		}
	}
}

func TestRatings(t *testing.T) {
	q := of(1)
	for _, rating := range []int{math.MinInt, -1 << 31, -1, 10001, 10002, 1<<16 + 1, 1<<31 - 1, math.MaxInt} {
		fails(t, q, rated(rating, ticket(1, 7)), api.ErrRange)
		holds(t, q)
	}
	for _, rating := range []int{0, 1, 1500, 9999, 10000} {
		x := rated(rating, ticket(1, 7))
		puts(t, q, x)
		holds(t, q, x)
		drops(t, q, x)
	}
}

func TestWhoIsThereAlready(t *testing.T) {
	q := of(4, 4)
	a, b := ticket(5, 1, 2), in(1, ticket(6, 3, 4))
	puts(t, q, a, b)
	for _, mode := range []int{0, 1} {
		for _, x := range []queue.Ticket{
			ticket(5, 9), ticket(6, 9), ticket(5, 1, 2), ticket(5, 3, 4),
			ticket(7, 1), ticket(7, 2), ticket(7, 3), ticket(7, 4), ticket(7, 9, 8, 1), ticket(7, 4, 9), ticket(7, 9, 3, 8), ticket(7, 1, 3),
			ticket(7, 9, 9), ticket(7, 9, 8, 9), ticket(7, 8, 9, 7, 9), ticket(7, 9, 9, 9, 9), ticket(7, last, 1000, last),
		} {
			fails(t, q, in(mode, since(-1, x)), api.ErrExists)
		}
	}
	holds(t, q, a, b)
	drops(t, q, a)
	// Whoever is dropped may come again, and so may the id.
	c := in(1, ticket(5, 2, 9))
	puts(t, q, c)
	holds(t, q, c, b)
	fails(t, q, ticket(8, 9), api.ErrExists)
	d := ticket(8, 1)
	puts(t, q, d)
	holds(t, q, c, b, d)
}

func TestSixteenOfAMode(t *testing.T) {
	q := of(1, 2, 3, 4)
	var l []queue.Ticket
	for mode := range 4 {
		for i := range uint32(16) {
			n := uint32(mode)*16 + i + 1
			x := in(mode, since(int64(i), ticket(n, n)))
			puts(t, q, x)
			l = append(l, x)
		}
		for _, x := range []queue.Ticket{ticket(99, 99), ticket(99, 99), since(least, ticket(99, 99)), since(most, ticket(99, 99))} {
			fails(t, q, in(mode, x), api.ErrFull)
		}
	}
	holds(t, q, l...)
	for place, x := range slices.Clone(l) {
		drops(t, q, x)
		for mode := range 4 {
			if mode != x.Mode {
				fails(t, q, in(mode, ticket(99, 99)), api.ErrFull)
			}
		}
		y := in(x.Mode, since(x.Since, ticket(x.Id, 100+x.Id)))
		puts(t, q, y)
		fails(t, q, in(x.Mode, ticket(99, 99)), api.ErrFull)
		l[place] = y
	}
	holds(t, q, l...)
}

// Sixteen are as many as may be of many modes, too, and of one that is not right.
func TestSixteenOfEachOfManyModes(t *testing.T) {
	modes := make([]plan.Mode, 9)
	for i := range modes {
		modes[i].K = i + 1
	}
	q := queue.New(plan.Config{Modes: modes})
	for mode := range modes {
		for i := range uint32(16) {
			n := uint32(mode)*100 + i + 1
			puts(t, q, in(mode, ticket(n, n)))
		}
		fails(t, q, in(mode, ticket(5000, 5000)), api.ErrFull)
	}
	if q.Len() != 144 || len(q.Mode(8)) != 16 {
		t.Errorf("%d, %d of the last mode", q.Len(), len(q.Mode(8)))
	}
}

// Of several errors the one that is named first counts.
func TestTheFirstErrorCounts(t *testing.T) {
	for faults := range 64 {
		q := of(2, 2)
		puts(t, q, in(1, ticket(40, 41)))
		x, e := ticket(9, 50), api.OK
		fault := func(bit int, err api.Errno, does func()) {
			if faults>>bit&1 == 1 {
				does()
				e = err
			}
		}
		fault(5, api.ErrFull, func() {
			for n := range uint32(16) {
				puts(t, q, ticket(10+n, 10+n))
			}
		})
		fault(4, api.ErrExists, func() { x.Players[0] = 41 })
		fault(3, api.ErrRange, func() { x.Rating = -1 })
		fault(2, api.ErrSize, func() { x.Players = append(x.Players, 51, 52) })
		fault(1, api.ErrMode, func() { x.Mode = 2 })
		fault(0, api.ErrId, func() { x.Id = 0 })
		fails(t, q, x, e)
		if faults&1 == 1 {
			// A player that is no id is the same error as an id that is none.
			x.Id, x.Players[len(x.Players)-1] = 9, 0
			fails(t, q, x, e)
		}
	}
	q := of(2)
	for n := range uint32(16) {
		puts(t, q, ticket(10+n, 10+n))
	}
	fails(t, q, ticket(10, 99), api.ErrExists)
	fails(t, q, ticket(99, 98, 98), api.ErrExists)
	fails(t, q, ticket(99, 99), api.ErrFull)
	// Without players nobody is there twice, and a mode that is not there has no size.
	fails(t, q, rated(-1, ticket(10)), api.ErrSize)
	fails(t, q, in(1, ticket(10)), api.ErrMode)
}

// P17.2

func TestTheOldestFirst(t *testing.T) {
	r := rand.New(rand.NewSource(1))
	var l []queue.Ticket
	for place, at := range times {
		l = append(l, since(at, ticket(uint32(50-place), uint32(place+1))))
	}
	for i := range uint32(5) {
		l = append(l, since(most, ticket(last-4+i, 70+i)))
	}
	for range 200 {
		q := of(4)
		for _, place := range r.Perm(len(l)) {
			puts(t, q, l[place])
		}
		if got := q.Mode(0); !slices.EqualFunc(got, l, same) {
			t.Fatalf("%v, not %v", got, l)
		}
	}
}

func TestModesAreApart(t *testing.T) {
	q := of(1, 2, 3)
	a, b, c, d := in(2, since(9, ticket(1, 1))), ticket(2, 2), in(2, since(3, ticket(3, 3))), since(-5, ticket(4, 4))
	puts(t, q, a, b, c, d)
	holds(t, q, d, b, c, a)
	drops(t, q, d)
	holds(t, q, b, c, a)
}

func TestPlayersStayInTheirOrder(t *testing.T) {
	q := of(4)
	x := rated(7, since(-3, ticket(1, 9, 3, 200, 4)))
	puts(t, q, x)
	holds(t, q, x)
	drops(t, q, x)
	holds(t, q)
}

func TestWhatIsNotThere(t *testing.T) {
	q := of(1)
	x := ticket(5, 7)
	puts(t, q, x)
	for _, id := range slices.Concat(ids, wrong, []uint32{4, 6, 7}) {
		if got, was := q.Drop(id); was || !same(got, queue.Ticket{}) {
			t.Errorf("%d: %v was dropped", id, got)
		}
	}
	holds(t, q, x)
	drops(t, q, x)
	if _, was := q.Drop(5); was {
		t.Error("it was dropped twice")
	}
	holds(t, q)
}

func TestNil(t *testing.T) {
	var q *queue.Queue
	for _, id := range slices.Concat(ids, wrong) {
		for _, mode := range []int{math.MinInt, -1, 0, 1, math.MaxInt} {
			fails(t, q, in(mode, ticket(id, id)), api.ErrFull)
			fails(t, q, in(mode, rated(-1, ticket(id))), api.ErrFull)
		}
		if got, was := q.Drop(id); was || !same(got, queue.Ticket{}) {
			t.Errorf("%v was dropped", got)
		}
	}
	holds(t, q)
}

// P17.3

func TestWhatIsPutAgainStandsWhereItStood(t *testing.T) {
	q := of(2, 2)
	l := []queue.Ticket{
		since(least, ticket(9, 1)), since(-4, ticket(8, 2, 3)), since(5, ticket(2, 4)), since(5, ticket(4, 6)), since(5, ticket(6, 5)), since(most, ticket(1, 7)),
		in(1, since(5, ticket(3, 8))), in(1, since(5, ticket(5, 9))),
	}
	puts(t, q, l...)
	for range 3 {
		for _, x := range l {
			got, _ := q.Drop(x.Id)
			puts(t, q, got)
			holds(t, q, l...)
		}
	}
}

// model is what the chapter says of a queue, by a list of its tickets in their order.
type model struct {
	sizes   []int
	tickets []queue.Ticket
}

func (m *model) put(x queue.Ticket) api.Errno {
	bad := func(id uint32) bool { return id < 1 || id > last }
	many, clash := 0, false
	for _, y := range m.tickets {
		if y.Mode == x.Mode {
			many++
		}
		clash = clash || y.Id == x.Id
		for _, p := range x.Players {
			clash = clash || slices.Contains(y.Players, p)
		}
	}
	for i, p := range x.Players {
		clash = clash || slices.Contains(x.Players[:i], p)
	}
	switch {
	case bad(x.Id) || slices.ContainsFunc(x.Players, bad):
		return api.ErrId
	case x.Mode < 0 || x.Mode >= len(m.sizes):
		return api.ErrMode
	case len(x.Players) < 1 || len(x.Players) > m.sizes[x.Mode]:
		return api.ErrSize
	case x.Rating < 0 || x.Rating > 10000:
		return api.ErrRange
	case clash:
		return api.ErrExists
	case many >= 16:
		return api.ErrFull
	}
	place := 0
	for place < len(m.tickets) && (m.tickets[place].Since < x.Since || m.tickets[place].Since == x.Since && m.tickets[place].Id < x.Id) {
		place++
	}
	m.tickets = slices.Insert(m.tickets, place, copied(x))
	return api.OK
}

func (m *model) drop(id uint32) (queue.Ticket, bool) {
	for place, x := range m.tickets {
		if x.Id == id {
			m.tickets = slices.Delete(m.tickets, place, place+1)
			return x, true
		}
	}
	return queue.Ticket{}, false
}

// some is a ticket of any kind, now and then one that can't be put.
func some(r *rand.Rand, modes, many int) queue.Ticket {
	rare := func(n int) bool { return r.Intn(40) < n }
	x := queue.Ticket{Id: uint32(1 + r.Intn(many)), Mode: r.Intn(modes), Rating: r.Intn(10001), Since: int64(r.Intn(9) - 4)}
	for range 1 + r.Intn(4) {
		x.Players = append(x.Players, uint32(1+r.Intn(many)))
	}
	if rare(30) {
		x.Players = x.Players[:1]
	}
	if rare(1) {
		x.Id = wrong[r.Intn(len(wrong))]
	}
	if rare(1) {
		x.Players[r.Intn(len(x.Players))] = wrong[r.Intn(len(wrong))]
	}
	if rare(1) {
		x.Players = nil
	}
	if rare(1) {
		x.Mode = []int{-1, modes, math.MaxInt, math.MinInt}[r.Intn(4)]
	}
	if rare(1) {
		x.Rating = []int{-1, 10001, math.MaxInt, math.MinInt}[r.Intn(4)]
	}
	if rare(3) {
		x.Since = times[r.Intn(len(times))]
	}
	return x
}

func TestAsTheModelIs(t *testing.T) {
	for seed, sizes := range [][]int{{1}, {4}, {1, 2}, {2, 3, 4, 1}, {1, 1, 1, 1}, {}} {
		r := rand.New(rand.NewSource(int64(seed)))
		m, q := &model{sizes: sizes}, of(sizes...)
		seen := map[api.Errno]int{}
		for range 3000 {
			x := some(r, max(len(sizes), 1), 200)
			e := m.put(x)
			fails(t, q, copied(x), e)
			seen[e]++
			if r.Intn(4) == 0 {
				id := uint32(1 + r.Intn(200))
				want, is := m.drop(id)
				if got, was := q.Drop(id); was != is || !same(got, want) {
					t.Fatalf("%d: %v was dropped, not %v", id, got, want)
				}
			}
			if r.Intn(10) == 0 {
				holds(t, q, m.tickets...)
			}
			if t.Failed() {
				t.FailNow()
			}
		}
		for _, e := range []api.Errno{api.OK, api.ErrId, api.ErrMode, api.ErrSize, api.ErrRange, api.ErrExists, api.ErrFull} {
			if len(sizes) > 0 && seen[e] == 0 {
				t.Errorf("of %v none answered %d", sizes, e)
			}
		}
	}
}

// The rules R2, R4 and R6, and what is kept

func TestAnErrorChangesNothing(t *testing.T) {
	r := rand.New(rand.NewSource(5))
	q := of(2, 1)
	l := []queue.Ticket{since(1, ticket(1, 1, 2)), since(3, ticket(2, 3)), in(1, ticket(3, 4))}
	puts(t, q, l...)
	for range 3000 {
		x := some(r, 2, 6)
		if q.Put(x) == api.OK {
			drops(t, q, x)
		}
	}
	holds(t, q, l...)
}

// spoil writes into all of a list, and into the room behind it.
func spoil(l []uint32) {
	l = l[:cap(l)]
	for i := range l {
		l[i] = 99
	}
}

func TestWhatIsHandedInIsNotKeptNorChanged(t *testing.T) {
	modes := []plan.Mode{{K: 2, Every: 1}, {K: 1, Every: 1}}
	c := plan.Config{Modes: modes}
	q := queue.New(c)
	modes[0].K, modes[1].K = 1, 4
	room := []uint32{9, 7, 5, 3}
	x := ticket(1, room[:2]...)
	puts(t, q, x)
	if !slices.Equal(room, []uint32{9, 7, 5, 3}) {
		t.Errorf("it was changed: %v", room)
	}
	spoil(room)
	holds(t, q, ticket(1, 9, 7))
	fails(t, q, in(1, ticket(2, 1, 2)), api.ErrSize)
	if modes[0].K != 1 || modes[1].K != 4 {
		t.Errorf("it was changed: %v", modes)
	}
}

func TestAnswersAreTheirOwn(t *testing.T) {
	q := of(4, 1)
	x, y := since(5, ticket(1, 9, 7)), since(6, ticket(2, 5, 3, 1))
	puts(t, q, x, y)
	got, _ := q.Get(1)
	again, _ := q.Get(1)
	l, m := q.Mode(0), q.Mode(0)
	spoil(got.Players)
	spoil(l[0].Players)
	if !same(l[1], y) {
		t.Errorf("lists of an answer share: %v", l)
	}
	spoil(l[1].Players)
	for i := range l[:cap(l)] {
		l[:cap(l)][i] = queue.Ticket{Id: 77}
	}
	if !same(again, x) || !slices.EqualFunc(m, []queue.Ticket{x, y}, same) {
		t.Errorf("answers share: %v, %v", again, m)
	}
	holds(t, q, x, y)
	dropped, _ := q.Drop(1)
	puts(t, q, ticket(1, 9, 7))
	spoil(dropped.Players)
	holds(t, q, ticket(1, 9, 7), y)
	if !same(again, x) || !slices.EqualFunc(m, []queue.Ticket{x, y}, same) {
		t.Errorf("answers change: %v, %v", again, m)
	}
}

func TestQueuesShareNothing(t *testing.T) {
	c := plan.Usual(plan.Mode{K: 1, Every: 1})
	a, b := queue.New(c), queue.New(c)
	puts(t, a, ticket(1, 7))
	holds(t, b)
	puts(t, b, ticket(2, 7))
	holds(t, a, ticket(1, 7))
	drops(t, a, ticket(1, 7))
	holds(t, b, ticket(2, 7))
}

// inUse is how much memory is in use.
func inUse() int64 {
	runtime.GC()
	var m runtime.MemStats
	runtime.ReadMemStats(&m)
	return int64(m.HeapAlloc)
}

func TestWhatIsDroppedIsNotKept(t *testing.T) {
	q := of(4)
	stays := since(most, ticket(last, last))
	puts(t, q, stays)
	before := inUse()
	for i := uint32(1); i < 100000; i++ {
		x := since(int64(i), ticket(i, i, i+1, i+2))
		puts(t, q, x)
		fails(t, q, ticket(i+1, i), api.ErrExists)
		q.Get(i + 1)
		q.Mode(0)
		drops(t, q, x)
	}
	if more := inUse() - before; more > 1<<18 {
		t.Errorf("%d bytes of memory", more)
	}
	holds(t, q, stays)
}
