package pool_test

import (
	"math"
	"math/big"
	"math/rand"
	"runtime"
	"slices"
	"testing"

	"tiltyard/api"
	"tiltyard/pool"
)

const last = 1<<31 - 1

// ids are some at their edges, wrong are numbers that are none; times are those at the edges of their type, and some between.
var (
	ids   = []uint32{1, 2, 3, 255, 65536, 1 << 30, last - 1, last}
	wrong = []uint32{0, 1 << 31, 1<<31 + 1, 1<<31 + 7, math.MaxUint32 - 1, math.MaxUint32}
	times = []int64{math.MinInt64, math.MinInt64 + 1, -1 << 32, -6, -5, -1, 0, 1, 4, 5, 6, 9, 1 << 32, math.MaxInt64 - 6, math.MaxInt64 - 5, math.MaxInt64 - 1, math.MaxInt64}
)

// Each state's number, its name, and whether one that is in it has a match.
var states = []struct {
	number int
	name   string
	match  bool
}{{0, "down", false}, {1, "free", false}, {2, "held", true}, {3, "starting", true}, {4, "live", true}, {5, "draining", false}}

// step is something that is done with an instance.
type step struct {
	what  string
	id    uint32
	match uint32
	now   int64
}

// do does a step; what a call does not answer is nothing.
func (s step) do(p *pool.Pool) (uint32, api.Errno) {
	switch s.what {
	case "hello":
		return p.Hello(s.id, s.now)
	case "beat":
		return 0, p.Beat(s.id, s.now)
	case "hold":
		return 0, p.Hold(s.id, s.match)
	case "start":
		return 0, p.Start(s.id, s.now)
	case "up":
		return 0, p.Up(s.id, s.now)
	case "let":
		return 0, p.Let(s.id)
	case "drain":
		return 0, p.Drain(s.id)
	case "freed":
		return 0, p.Freed(s.id, s.now)
	}
	return p.Kill(s.id)
}

// calls are all that may be done.
var calls = []string{"hello", "beat", "hold", "start", "up", "let", "drain", "freed", "kill"}

// into are the steps by which an instance that is down comes into a state, touched at a time; but for one that is down, which was
// touched then, too.
func into(state int, id, match uint32, now int64) []step {
	way := []step{{what: "hello", id: id, now: now}, {what: "hold", id: id, match: match}, {what: "start", id: id, now: now}, {what: "up", id: id, now: now}, {what: "drain", id: id}}
	if state == pool.Down {
		return []step{way[0], {what: "kill", id: id}}
	}
	return way[:state]
}

// with is a pool of so many, some of which are in these states from the first one on, of the matches 101, 102 and so on, touched at now.
func with(many int, beat, now int64, in ...int) *pool.Pool {
	p := pool.New(many, beat)
	for place, state := range in {
		for _, s := range into(state, uint32(place+1), uint32(place+101), now) {
			s.do(p)
		}
	}
	return p
}

// is is an instance in a state, which has the match, if one that is in it has one.
func is(state int, match uint32, last int64) pool.Instance {
	if !states[state].match {
		match = 0
	}
	return pool.Instance{State: state, Match: match, Last: last}
}

// all are the instances of a pool.
func all(p *pool.Pool) []pool.Instance {
	var l []pool.Instance
	for place := range p.Many() {
		x, _ := p.Instance(uint32(place + 1))
		l = append(l, x)
	}
	return l
}

// late tells whether an instance is late, as the chapter says, in numbers without bounds.
func late(x pool.Instance, beat, now int64) bool {
	due := new(big.Int).Add(big.NewInt(x.Last), big.NewInt(max(beat, 0)))
	if most := big.NewInt(math.MaxInt64); due.Cmp(most) > 0 {
		due = most
	}
	return x.State != pool.Down && big.NewInt(now).Cmp(due) >= 0
}

// holds tells whether a pool of a beat has just these instances, whatever is asked of it.
func holds(p *pool.Pool, beat int64, want ...pool.Instance) bool {
	least := uint32(slices.IndexFunc(want, func(x pool.Instance) bool { return x.State == pool.Free }) + 1)
	if p.Many() != len(want) || !slices.Equal(all(p), want) || p.Least() != least {
		return false
	}
	for _, now := range append([]int64{7, 100}, times...) {
		var l []uint32
		for place, x := range want {
			if late(x, beat, now) {
				l = append(l, uint32(place+1))
			}
		}
		if !slices.Equal(p.Late(now), l) {
			return false
		}
	}
	for _, id := range slices.Concat(ids, wrong, []uint32{uint32(len(want)), uint32(len(want) + 1), 16, 17, 257, 65537}) {
		if x, there := p.Instance(id); there != (id >= 1 && int64(id) <= int64(len(want))) || !there && x != (pool.Instance{}) {
			return false
		}
	}
	return true
}

// has fails unless a pool has just these instances.
func has(t *testing.T, p *pool.Pool, beat int64, want ...pool.Instance) {
	t.Helper()
	if !holds(p, beat, want...) {
		t.Errorf("%v, the least is %d, not %v", all(p), p.Least(), want)
	}
}

// does fails unless just this is answered to a step.
func does(t *testing.T, p *pool.Pool, s step, had uint32, e api.Errno) {
	t.Helper()
	if got, n := s.do(p); got != had || n != e {
		t.Errorf("%v: %d %d, not %d %d", s, got, n, had, e)
	}
}

// P21.1

func TestStatesAreNumbered(t *testing.T) {
	for i, state := range []int{pool.Down, pool.Free, pool.Held, pool.Starting, pool.Live, pool.Draining} {
		if state != i || states[i].number != i {
			t.Errorf("%s is %d", states[i].name, state)
		}
	}
}

func TestNew(t *testing.T) {
	for _, beat := range times {
		for _, c := range []struct{ many, want int }{
			{math.MinInt, 0}, {-1 << 31, 0}, {-2, 0}, {-1, 0}, {0, 0}, {1, 1}, {2, 2}, {3, 3}, {15, 15}, {16, 16},
			{17, 16}, {18, 16}, {32, 16}, {257, 16}, {65536, 16}, {last, 16}, {math.MaxInt - 1, 16}, {math.MaxInt, 16},
		} {
			p := pool.New(c.many, beat)
			if p == nil {
				t.Fatalf("no pool of %d", c.many)
			}
			has(t, p, beat, make([]pool.Instance, c.want)...)
		}
	}
}

// Whatever else is wrong, and in whatever states those are that are there.
func TestWhatIsNotThere(t *testing.T) {
	for _, many := range []int{0, 1, 2, 6, 16} {
		p := with(many, 5, 3, []int{4, 1, 0, 2, 3, 5}[:min(many, 6)]...)
		before := all(p)
		for _, id := range slices.Concat(ids, wrong, []uint32{4, 6, 7, 15, 16, 17, 18, 256, 257, 65537}) {
			if id >= 1 && int64(id) <= int64(many) {
				continue
			}
			for _, what := range calls {
				for _, match := range []uint32{0, 7, last, 1 << 31} {
					does(t, p, step{what: what, id: id, match: match, now: 8}, 0, api.ErrMissing)
				}
			}
		}
		has(t, p, 5, before...)
	}
}

// Whatever state it is in, it is free then, and what is told is the match that it had.
func TestHello(t *testing.T) {
	for _, s := range states {
		for _, match := range ids {
			for _, now := range times {
				p := pool.New(2, 5)
				for _, x := range into(s.number, 2, match, 3) {
					x.do(p)
				}
				does(t, p, step{what: "hello", id: 2, now: now}, is(s.number, match, 3).Match, api.OK)
				has(t, p, 5, pool.Instance{}, pool.Instance{State: pool.Free, Last: now})
				does(t, p, step{what: "hello", id: 2, now: 4}, 0, api.OK)
				has(t, p, 5, pool.Instance{}, pool.Instance{State: pool.Free, Last: 4})
			}
		}
	}
}

// Whatever state it is in, it is down then, and when it was touched stays; but for one that is down.
func TestKill(t *testing.T) {
	for _, s := range states {
		for _, match := range ids {
			p := pool.New(3, 5)
			for _, x := range into(s.number, 2, match, 3) {
				x.do(p)
			}
			if s.number != pool.Down {
				does(t, p, step{what: "kill", id: 2}, is(s.number, match, 3).Match, api.OK)
			}
			has(t, p, 5, pool.Instance{}, pool.Instance{State: pool.Down, Last: 3}, pool.Instance{})
			for _, id := range []uint32{1, 2, 3} {
				does(t, p, step{what: "kill", id: id}, 0, api.ErrState)
			}
			has(t, p, 5, pool.Instance{}, pool.Instance{State: pool.Down, Last: 3}, pool.Instance{})
		}
	}
}

// P21.2

func TestTheExample(t *testing.T) {
	p := pool.New(2, 5)
	does(t, p, step{what: "hello", id: 2}, 0, api.OK)
	has(t, p, 5, pool.Instance{}, is(pool.Free, 0, 0))
	does(t, p, step{what: "hold", id: 2, match: 9}, 0, api.OK)
	has(t, p, 5, pool.Instance{}, is(pool.Held, 9, 0))
	does(t, p, step{what: "start", id: 2, now: 1}, 0, api.OK)
	has(t, p, 5, pool.Instance{}, is(pool.Starting, 9, 1))
	does(t, p, step{what: "up", id: 2, now: 2}, 0, api.OK)
	has(t, p, 5, pool.Instance{}, is(pool.Live, 9, 2))
	does(t, p, step{what: "drain", id: 2}, 0, api.OK)
	has(t, p, 5, pool.Instance{}, is(pool.Draining, 0, 2))
	does(t, p, step{what: "freed", id: 2, now: 4}, 0, api.OK)
	has(t, p, 5, pool.Instance{}, is(pool.Free, 0, 4))
	if p.Least() != 2 {
		t.Errorf("the least is %d", p.Least())
	}
}

// What each call does in each state: the state behind it, and whether it is touched; -1, if it is ErrState.
var table = map[string][6]struct {
	to      int
	touched bool
}{
	"hello": {{1, true}, {1, true}, {1, true}, {1, true}, {1, true}, {1, true}},
	"beat":  {{-1, false}, {1, true}, {2, true}, {3, false}, {4, true}, {5, true}},
	"hold":  {{-1, false}, {2, false}, {-1, false}, {-1, false}, {-1, false}, {-1, false}},
	"start": {{-1, false}, {-1, false}, {3, true}, {-1, false}, {-1, false}, {-1, false}},
	"up":    {{-1, false}, {-1, false}, {-1, false}, {4, true}, {-1, false}, {-1, false}},
	"let":   {{-1, false}, {-1, false}, {1, false}, {-1, false}, {-1, false}, {-1, false}},
	"drain": {{-1, false}, {-1, false}, {-1, false}, {5, false}, {5, false}, {-1, false}},
	"freed": {{-1, false}, {-1, false}, {-1, false}, {-1, false}, {-1, false}, {1, true}},
	"kill":  {{-1, false}, {0, false}, {0, false}, {0, false}, {0, false}, {0, false}},
}

// Each call, in each state, at each time, of an instance among others that stay as they are.
func TestEachCallInEachState(t *testing.T) {
	for _, what := range calls {
		for _, s := range states {
			for _, now := range times {
				p := with(4, 5, 3, pool.Live, s.number, pool.Free, pool.Held)
				x := is(s.number, 102, 3)
				row, had, e := table[what][s.number], uint32(0), api.OK
				if row.to < 0 {
					e = api.ErrState
				} else {
					if what == "hello" || what == "kill" {
						had = x.Match
					}
					if what == "hold" {
						x.Match = 77
					}
					x = is(row.to, x.Match, 3)
					if row.touched {
						x.Last = now
					}
				}
				does(t, p, step{what: what, id: 2, match: 77, now: now}, had, e)
				has(t, p, 5, is(pool.Live, 101, 3), x, is(pool.Free, 0, 3), is(pool.Held, 104, 3))
			}
		}
	}
}

// Which state it is in counts ahead of what the match is.
func TestHold(t *testing.T) {
	for _, s := range states {
		for _, match := range slices.Concat(ids, wrong, []uint32{102}) {
			p := with(2, 5, 3, pool.Down, s.number)
			x, e := is(s.number, 102, 3), api.ErrState
			if s.number == pool.Free {
				x, e = is(pool.Held, match, 3), api.OK
				if match < 1 || match > last {
					x, e = is(pool.Free, 0, 3), api.ErrId
				}
			}
			does(t, p, step{what: "hold", id: 2, match: match}, 0, e)
			has(t, p, 5, is(pool.Down, 0, 3), x)
		}
	}
}

// Of one match, so many instances may be held as are free: the pool does not ask what else is held for it.
func TestHoldOfOneMatch(t *testing.T) {
	p := with(3, 5, 0, pool.Free, pool.Free, pool.Live)
	does(t, p, step{what: "hold", id: 1, match: 103}, 0, api.OK)
	does(t, p, step{what: "hold", id: 2, match: 103}, 0, api.OK)
	has(t, p, 5, is(pool.Held, 103, 0), is(pool.Held, 103, 0), is(pool.Live, 103, 0))
}

// An instance that starts is late however often it beats; any other one is not.
func TestBeatsOfOneThatStarts(t *testing.T) {
	for _, s := range states[1:] {
		p := with(1, 5, 0, s.number)
		for now := range int64(20) {
			does(t, p, step{what: "beat", id: 1, now: now}, 0, api.OK)
			want := is(s.number, 101, now)
			if s.number == pool.Starting {
				want.Last = 0
			}
			has(t, p, 5, want)
			if got := len(p.Late(now)) == 1; got != (s.number == pool.Starting && now >= 5) {
				t.Errorf("%s at %d: late %v", s.name, now, got)
			}
		}
	}
}

// Time may go back: what was told last counts.
func TestTimesGoBack(t *testing.T) {
	p := with(1, 5, 100, pool.Live)
	for _, now := range []int64{50, -7, math.MinInt64, 8} {
		does(t, p, step{what: "beat", id: 1, now: now}, 0, api.OK)
		has(t, p, 5, is(pool.Live, 101, now))
	}
}

func TestLeast(t *testing.T) {
	for many := range 17 {
		p := pool.New(many, 5)
		// From the greatest on each is the least as soon as it is free.
		for id := many; id >= 1; id-- {
			if id < many && p.Least() != uint32(id+1) {
				t.Fatalf("of %d the least is %d, not %d", many, p.Least(), id+1)
			}
			p.Hello(uint32(id), 0)
		}
		for id := 1; id <= many; id++ {
			if p.Least() != uint32(id) {
				t.Fatalf("of %d the least is %d, not %d", many, p.Least(), id)
			}
			does(t, p, step{what: "hold", id: uint32(id), match: 7}, 0, api.OK)
		}
		if p.Least() != 0 {
			t.Errorf("of %d the least is %d", many, p.Least())
		}
	}
	// Only one that is free counts.
	for _, s := range states {
		p, want := with(3, 5, 0, s.number, s.number, pool.Free), uint32(3)
		if s.number == pool.Free {
			want = 1
		}
		if p.Least() != want {
			t.Errorf("ahead of it they are %s: the least is %d", s.name, p.Least())
		}
	}
}

// P21.3

// Each beat, each time at which it was touched, and each at which it is asked, in each state.
func TestLate(t *testing.T) {
	for _, s := range states {
		for _, beat := range times {
			for _, touched := range times {
				p, x := with(1, beat, touched, s.number), is(s.number, 101, touched)
				for _, now := range times {
					if got := p.Late(now); (len(got) == 1 && got[0] == 1) != late(x, beat, now) || len(got) > 1 {
						t.Fatalf("%s since %d, of the beat %d, at %d: %v", s.name, touched, beat, now, got)
					}
				}
			}
		}
	}
}

func TestLateAtItsEdges(t *testing.T) {
	for _, c := range []struct {
		beat, touched, now int64
		late               bool
	}{
		{5, 3, 7, false}, {5, 3, 8, true}, {5, 3, 9, true}, {1, 3, 3, false}, {1, 3, 4, true},
		{0, 3, 2, false}, {0, 3, 3, true}, {-5, 3, 2, false}, {-5, 3, 3, true}, {math.MinInt64, 3, 2, false}, {math.MinInt64, 3, 3, true},
		{math.MaxInt64, 3, math.MaxInt64 - 1, false}, {math.MaxInt64, 3, math.MaxInt64, true},
		{5, math.MaxInt64 - 3, math.MaxInt64 - 1, false}, {5, math.MaxInt64 - 3, math.MaxInt64, true},
		{math.MaxInt64, math.MinInt64, -2, false}, {math.MaxInt64, math.MinInt64, -1, true},
		{5, math.MinInt64, math.MinInt64 + 4, false}, {5, math.MinInt64, math.MinInt64 + 5, true}, {5, 3, math.MinInt64, false},
	} {
		if got := with(1, c.beat, c.touched, pool.Live).Late(c.now); len(got) == 1 != c.late {
			t.Errorf("%v: %v", c, got)
		}
	}
}

func TestLateOnesRise(t *testing.T) {
	p := pool.New(16, 5)
	for _, id := range rand.New(rand.NewSource(2)).Perm(16) {
		p.Hello(uint32(id+1), int64(id%4))
	}
	p.Kill(6)
	p.Kill(8)
	for now, want := range map[int64][]uint32{
		4: nil, 5: {1, 5, 9, 13}, 6: {1, 2, 5, 9, 10, 13, 14}, 7: {1, 2, 3, 5, 7, 9, 10, 11, 13, 14, 15}, 8: {1, 2, 3, 4, 5, 7, 9, 10, 11, 12, 13, 14, 15, 16}, 1000: {1, 2, 3, 4, 5, 7, 9, 10, 11, 12, 13, 14, 15, 16},
	} {
		if got := p.Late(now); !slices.Equal(got, want) {
			t.Errorf("at %d: %v, not %v", now, got, want)
		}
	}
}

func TestNilPool(t *testing.T) {
	var p *pool.Pool
	for _, id := range slices.Concat(ids, wrong) {
		for _, what := range calls {
			does(t, p, step{what: what, id: id, match: 7, now: 3}, 0, api.ErrMissing)
			does(t, p, step{what: what, id: id, match: 0, now: 3}, 0, api.ErrMissing)
		}
	}
	has(t, p, 0)
}

// P21.4

// model is what the chapter says of a pool, call by call.
type model struct {
	beat int64
	l    []pool.Instance
}

// do does a step in the model, and is what shall be answered.
func (m *model) do(s step) (uint32, api.Errno) {
	if s.id < 1 || int64(s.id) > int64(len(m.l)) {
		return 0, api.ErrMissing
	}
	x := &m.l[s.id-1]
	row, had := table[s.what][x.State], x.Match
	switch {
	case row.to < 0:
		return 0, api.ErrState
	case s.what == "hold" && (s.match < 1 || s.match > last):
		return 0, api.ErrId
	}
	if s.what == "hold" {
		x.Match = s.match
	}
	*x = is(row.to, x.Match, x.Last)
	if row.touched {
		x.Last = s.now
	}
	if s.what == "hello" || s.what == "kill" {
		return had, api.OK
	}
	return 0, api.OK
}

// try does a step in both, and fails unless both answer the same, and are the same.
func (m *model) try(t *testing.T, p *pool.Pool, s step) api.Errno {
	t.Helper()
	had, e := m.do(s)
	if got, n := s.do(p); got != had || n != e || !holds(p, m.beat, m.l...) {
		t.Fatalf("%v: %d %d, not %d %d; %v, not %v", s, got, n, had, e, all(p), m.l)
	}
	return e
}

// Whatever is done with two instances, up to three things, one behind the other, from each two states on.
func TestAllThatTwoDo(t *testing.T) {
	var some []step
	for _, what := range calls {
		some = append(some, step{what: what, id: 1, match: 5, now: 7}, step{what: what, id: 2, match: 6, now: 8})
	}
	for way := range 36 * len(some) * len(some) * len(some) {
		first, second := way%6, way/6%6
		m := &model{5, []pool.Instance{is(first, 101, 3), is(second, 102, 3)}}
		p := with(2, 5, 3, first, second)
		for way /= 36; way > 0; way /= len(some) {
			m.try(t, p, some[way%len(some)])
		}
	}
}

// No instance has a match but one that is held, starting or live, and none goes live that was not started, whatever is done.
func TestAsTheModelIs(t *testing.T) {
	for _, many := range []int{0, 1, 2, 5, 16} {
		r := rand.New(rand.NewSource(int64(many)))
		beat := times[r.Intn(len(times))]
		m, p := &model{beat, make([]pool.Instance, many)}, pool.New(many, beat)
		var errors [28]int
		var seen [6]int
		for range 6000 {
			s := step{what: calls[r.Intn(len(calls))], id: uint32(r.Intn(many + 2)), match: uint32(1 + r.Intn(99)), now: times[r.Intn(len(times))]}
			if s.what == "kill" && r.Intn(3) > 0 {
				s.what = "up"
			}
			if r.Intn(5) == 0 {
				s.match = wrong[r.Intn(len(wrong))]
			}
			before, _ := p.Instance(s.id)
			errors[m.try(t, p, s)]++
			x, _ := p.Instance(s.id)
			seen[x.State]++
			if x.Match != 0 && !states[x.State].match || x.Match == 0 && states[x.State].match {
				t.Fatalf("%v: %v", s, x)
			}
			if x.State == pool.Live && before.State != pool.Live && before.State != pool.Starting || x.State == pool.Starting && before.State != pool.Starting && before.State != pool.Held {
				t.Fatalf("%v: %v, and %v ahead of it", s, x, before)
			}
		}
		if many > 0 && (slices.Min(seen[:]) < 30 || min(errors[api.OK], errors[api.ErrMissing], errors[api.ErrState]) < 30 || errors[api.ErrId] < 10) {
			t.Errorf("of %d: states %v, errors %v", many, seen, errors)
		}
	}
}

// The rules R2, R4 and R6, and what is kept

func TestAnErrorChangesNothing(t *testing.T) {
	refused := 0
	for _, what := range calls {
		for _, s := range states {
			for _, match := range []uint32{0, 7, 1 << 31} {
				p := with(2, 5, 3, s.number, pool.Live)
				had, e := step{what: what, id: 1, match: match, now: 8}.do(p)
				if e == api.OK {
					continue
				}
				refused++
				if had != 0 || !holds(p, 5, is(s.number, 101, 3), is(pool.Live, 102, 3)) {
					t.Errorf("%s of one that is %s: %d %d, %v", what, s.name, had, e, all(p))
				}
			}
		}
	}
	// Of 54 pairs of a call and a state 31 are ErrState for all matches, and one is ErrId for two of the three.
	if refused != 31*3+2 {
		t.Errorf("%d were refused", refused)
	}
}

func TestAnswersAreTheirOwn(t *testing.T) {
	p := with(4, 5, 0, pool.Live, pool.Free, pool.Down, pool.Held)
	a, b := p.Late(9), p.Late(9)
	for _, l := range [][]uint32{a, append(p.Late(9), 7)} {
		l = l[:cap(l)]
		for i := range l {
			l[i] = 99
		}
	}
	x, _ := p.Instance(1)
	x.State, x.Match, x.Last = pool.Down, 8, 8
	if !slices.Equal(b, []uint32{1, 2, 4}) {
		t.Errorf("%v", b)
	}
	has(t, p, 5, is(pool.Live, 101, 0), is(pool.Free, 0, 0), is(pool.Down, 0, 0), is(pool.Held, 104, 0))
}

func TestPoolsShareNothing(t *testing.T) {
	a, b := pool.New(2, 5), pool.New(2, 5)
	a.Hello(1, 4)
	has(t, b, 5, pool.Instance{}, pool.Instance{})
	b.Hello(2, 7)
	a.Hold(1, 9)
	has(t, a, 5, is(pool.Held, 9, 4), pool.Instance{})
	has(t, b, 5, pool.Instance{}, is(pool.Free, 0, 7))
}

func TestToAskChangesNothing(t *testing.T) {
	p := with(6, 5, 3, 5, 4, 3, 2, 1, 0)
	for range 5 {
		has(t, p, 5, is(5, 101, 3), is(4, 102, 3), is(3, 103, 3), is(2, 104, 3), is(1, 105, 3), is(0, 106, 3))
	}
}

// inUse is how much memory is in use.
func inUse() int64 {
	runtime.GC()
	var m runtime.MemStats
	runtime.ReadMemStats(&m)
	return int64(m.HeapAlloc)
}

func TestWhatIsOverIsNotKept(t *testing.T) {
	p := with(2, 5, 3, pool.Live, pool.Down)
	before := inUse()
	for i := range uint32(200000) {
		p.Hello(2, int64(i))
		p.Hold(2, i+1)
		p.Start(2, int64(i))
		p.Up(2, int64(i))
		p.Drain(2)
		p.Freed(2, int64(i))
		p.Late(int64(i))
		p.Kill(2)
	}
	if more := inUse() - before; more > 1<<18 {
		t.Errorf("%d bytes of memory", more)
	}
	has(t, p, 5, is(pool.Live, 101, 3), is(pool.Down, 0, 199999))
}
