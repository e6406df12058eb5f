package friend_test

import (
	"math"
	"math/rand"
	"runtime"
	"slices"
	"testing"

	"tiltyard/api"
	"tiltyard/friend"
)

const last = 1<<31 - 1

// ids are some at their edges, wrong are numbers that are none.
var (
	ids   = []uint32{1, 2, 3, 255, 65536, 1 << 30, last - 1, last}
	wrong = []uint32{0, 1 << 31, 1<<31 + 1, 1<<31 + 7, math.MaxUint32 - 1, math.MaxUint32}
)

// step is something that a player does to another one.
type step struct {
	what string
	a, b uint32
}

// whats are all that can be done.
var whats = []string{"ask", "accept", "refuse", "remove", "block", "unblock"}

// do does a step, and is what is answered.
func (s step) do(g *friend.Graph) (bool, api.Errno) {
	switch s.what {
	case "ask":
		return g.Ask(s.a, s.b)
	case "accept":
		return false, g.Accept(s.a, s.b)
	case "refuse":
		return false, g.Refuse(s.a, s.b)
	case "remove":
		return false, g.Remove(s.a, s.b)
	case "block":
		return g.Block(s.a, s.b)
	}
	return false, g.Unblock(s.a, s.b)
}

// with is a graph in which steps were done, one behind the other.
func with(steps ...step) *friend.Graph {
	g := friend.New()
	for _, s := range steps {
		s.do(g)
	}
	return g
}

// befriend are the steps by which two become friends.
func befriend(a, b uint32) []step { return []step{{"ask", a, b}, {"accept", b, a}} }

// model is what the chapter says of a graph, by three lists: who are friends (both ways), who asks whom, and who blocks whom.
type model struct{ friends, asks, blocks [][2]uint32 }

func has(l [][2]uint32, a, b uint32) bool { return slices.Contains(l, [2]uint32{a, b}) }

func add(l *[][2]uint32, a, b uint32) { *l = append(*l, [2]uint32{a, b}) }

// drop takes two out of a list, and tells whether they were in it.
func drop(l *[][2]uint32, a, b uint32) bool {
	before := len(*l)
	*l = slices.DeleteFunc(*l, func(p [2]uint32) bool { return p == [2]uint32{a, b} })
	return len(*l) < before
}

// of are those who stand in a list behind a player (at the place 0) or ahead of one (at 1), rising.
func of(l [][2]uint32, a uint32, place int) []uint32 {
	var found []uint32
	for _, p := range l {
		if p[place] == a {
			found = append(found, p[1-place])
		}
	}
	slices.Sort(found)
	return found
}

func (m *model) links(a uint32) friend.Links {
	return friend.Links{Friends: of(m.friends, a, 0), Asks: of(m.asks, a, 0), Asked: of(m.asks, a, 1), Blocks: of(m.blocks, a, 0)}
}

func (m *model) full(a uint32) bool {
	l := m.links(a)
	return len(l.Friends)+len(l.Asks)+len(l.Asked) >= 16
}

func (m *model) befriend(a, b uint32) {
	add(&m.friends, a, b)
	add(&m.friends, b, a)
}

func (m *model) unfriend(a, b uint32) bool {
	were := drop(&m.friends, a, b)
	drop(&m.friends, b, a)
	return were
}

func (m *model) ask(a, b uint32) (bool, api.Errno) {
	switch {
	case a < 1 || a > last || b < 1 || b > last:
		return false, api.ErrId
	case a == b:
		return false, api.ErrSelf
	case has(m.blocks, a, b) || has(m.blocks, b, a):
		return false, api.ErrBlocked
	case has(m.friends, a, b) || has(m.asks, a, b):
		return false, api.ErrExists
	case drop(&m.asks, b, a):
		m.befriend(a, b)
		return true, api.OK
	case m.full(a) || m.full(b):
		return false, api.ErrFull
	}
	add(&m.asks, a, b)
	return false, api.OK
}

func (m *model) block(a, b uint32) (bool, api.Errno) {
	switch {
	case a < 1 || a > last || b < 1 || b > last:
		return false, api.ErrId
	case a == b:
		return false, api.ErrSelf
	case has(m.blocks, a, b):
		return false, api.ErrExists
	case len(of(m.blocks, a, 0)) >= 16:
		return false, api.ErrFull
	}
	add(&m.blocks, a, b)
	drop(&m.asks, a, b)
	drop(&m.asks, b, a)
	return m.unfriend(a, b), api.OK
}

// do does a step in the model, and is what shall be answered.
func (m *model) do(s step) (bool, api.Errno) {
	is := false
	switch s.what {
	case "ask":
		return m.ask(s.a, s.b)
	case "block":
		return m.block(s.a, s.b)
	case "accept":
		if is = drop(&m.asks, s.b, s.a); is {
			m.befriend(s.a, s.b)
		}
	case "refuse":
		is = drop(&m.asks, s.b, s.a)
	case "remove":
		is = m.unfriend(s.a, s.b)
	case "unblock":
		is = drop(&m.blocks, s.a, s.b)
	}
	if !is {
		return false, api.ErrMissing
	}
	return false, api.OK
}

// same tells whether two players' links are the same.
func same(a, b friend.Links) bool {
	return slices.Equal(a.Friends, b.Friends) && slices.Equal(a.Asks, b.Asks) && slices.Equal(a.Asked, b.Asked) && slices.Equal(a.Blocks, b.Blocks)
}

// none tells whether a player knows nobody.
func none(l friend.Links) bool { return same(l, friend.Links{}) }

// like fails unless a graph is as the model is, for all of some players.
func (m *model) like(t *testing.T, g *friend.Graph, players ...uint32) {
	t.Helper()
	for _, a := range players {
		if got, want := g.Links(a), m.links(a); !same(got, want) {
			t.Fatalf("%d: %v, not %v", a, got, want)
		}
		for _, b := range players {
			if got, want := g.Are(a, b), has(m.friends, a, b); got != want {
				t.Fatalf("friends of %d and %d: %v, not %v", a, b, got, want)
			}
		}
	}
}

// try does a step in both, and fails unless both answer the same.
func (m *model) try(t *testing.T, g *friend.Graph, s step) {
	t.Helper()
	got, e := s.do(g)
	if want, f := m.do(s); got != want || e != f {
		t.Fatalf("%v: %v, error %d, not %v, error %d", s, got, e, want, f)
	}
}

// all fails unless the steps answer what is wanted, one behind the other.
func all(t *testing.T, g *friend.Graph, wanted ...answer) {
	t.Helper()
	for i, w := range wanted {
		if is, e := w.step.do(g); is != w.is || e != w.e {
			t.Errorf("%d, %v: %v, error %d, not %v, error %d", i, w.step, is, e, w.is, w.e)
		}
	}
}

// answer is a step, and what is answered.
type answer struct {
	step
	is bool
	e  api.Errno
}

// P12.1

func TestNew(t *testing.T) {
	g := friend.New()
	for _, a := range append(slices.Clone(ids), wrong...) {
		if !none(g.Links(a)) {
			t.Errorf("%d knows somebody: %v", a, g.Links(a))
		}
		for _, b := range append(slices.Clone(ids), wrong...) {
			if g.Are(a, b) {
				t.Errorf("%d and %d are friends", a, b)
			}
			for _, what := range []string{"accept", "refuse", "remove", "unblock"} {
				all(t, g, answer{step{what, a, b}, false, api.ErrMissing})
			}
		}
	}
}

func TestTheExamples(t *testing.T) {
	g := friend.New()
	all(t, g,
		answer{step{"ask", 1, 2}, false, api.OK},
		answer{step{"ask", 2, 1}, true, api.OK},
		answer{step{"block", 1, 2}, true, api.OK},
		answer{step{"ask", 2, 1}, false, api.ErrBlocked},
	)
	if !none(g.Links(2)) || !same(g.Links(1), friend.Links{Blocks: []uint32{2}}) {
		t.Errorf("%v, %v", g.Links(1), g.Links(2))
	}
}

func TestAsk(t *testing.T) {
	for _, a := range ids {
		for _, b := range ids {
			if a == b {
				continue
			}
			g := friend.New()
			all(t, g, answer{step{"ask", a, b}, false, api.OK})
			if g.Are(a, b) || g.Are(b, a) || !same(g.Links(a), friend.Links{Asks: []uint32{b}}) || !same(g.Links(b), friend.Links{Asked: []uint32{a}}) {
				t.Errorf("%d asks %d: %v, %v", a, b, g.Links(a), g.Links(b))
			}
			all(t, g, answer{step{"ask", a, b}, false, api.ErrExists}, answer{step{"ask", b, a}, true, api.OK})
			if !g.Are(a, b) || !g.Are(b, a) || !same(g.Links(a), friend.Links{Friends: []uint32{b}}) || !same(g.Links(b), friend.Links{Friends: []uint32{a}}) {
				t.Errorf("%d and %d are friends: %v, %v", a, b, g.Links(a), g.Links(b))
			}
			all(t, g, answer{step{"ask", a, b}, false, api.ErrExists}, answer{step{"ask", b, a}, false, api.ErrExists})
		}
	}
}

func TestAskAndBlockOfWhatIsNoId(t *testing.T) {
	g := with(step{"ask", 1, 2}, step{"block", 3, 1})
	for _, what := range []string{"ask", "block"} {
		for _, no := range wrong {
			for _, other := range append([]uint32{1, 2, last}, wrong...) {
				all(t, g, answer{step{what, no, other}, false, api.ErrId}, answer{step{what, other, no}, false, api.ErrId})
			}
		}
		for _, a := range ids {
			all(t, g, answer{step{what, a, a}, false, api.ErrSelf})
		}
	}
	if !same(g.Links(1), friend.Links{Asks: []uint32{2}}) || !same(g.Links(2), friend.Links{Asked: []uint32{1}}) || !same(g.Links(3), friend.Links{Blocks: []uint32{1}}) {
		t.Errorf("%v, %v, %v", g.Links(1), g.Links(2), g.Links(3))
	}
}

func TestAskOfBlocked(t *testing.T) {
	for _, blocks := range [][]step{{{"block", 1, 2}}, {{"block", 2, 1}}, {{"block", 1, 2}, {"block", 2, 1}}} {
		g := with(blocks...)
		for range 2 {
			all(t, g, answer{step{"ask", 1, 2}, false, api.ErrBlocked}, answer{step{"ask", 2, 1}, false, api.ErrBlocked})
		}
		// Others are not blocked by that.
		all(t, g, answer{step{"ask", 1, 3}, false, api.OK}, answer{step{"ask", 3, 2}, false, api.OK})
	}
	// Till nobody blocks any more.
	g := with(step{"block", 1, 2}, step{"block", 2, 1})
	all(t, g,
		answer{step{"unblock", 1, 2}, false, api.OK},
		answer{step{"ask", 1, 2}, false, api.ErrBlocked},
		answer{step{"ask", 2, 1}, false, api.ErrBlocked},
		answer{step{"unblock", 2, 1}, false, api.OK},
		answer{step{"ask", 1, 2}, false, api.OK},
	)
}

// filled is a graph in which a player has so many friends, so many whom the player asks, and so many who ask: from 100 on.
func filled(a uint32, friends, asks, asked int) *friend.Graph {
	g, other := friend.New(), uint32(100)
	for i := range friends + asks + asked {
		switch {
		case i < friends && i%2 == 0:
			g.Ask(a, other)
			g.Accept(other, a)
		case i < friends:
			g.Ask(other, a)
			g.Ask(a, other)
		case i < friends+asks:
			g.Ask(a, other)
		default:
			g.Ask(other, a)
		}
		other++
	}
	return g
}

// How many links one has counts, whatever they are, and of both.
func TestAskOfTheFull(t *testing.T) {
	for friends := range 17 {
		for asks := range 17 - friends {
			asked := 16 - friends - asks
			g := filled(7, friends, asks, asked)
			all(t, g, answer{step{"ask", 7, 9}, false, api.ErrFull}, answer{step{"ask", 9, 7}, false, api.ErrFull})
			if l := g.Links(7); len(l.Friends) != friends || len(l.Asks) != asks || len(l.Asked) != asked || !none(g.Links(9)) {
				t.Errorf("%d, %d, %d: %v", friends, asks, asked, l)
			}
			// With one less there is room for one more.
			if asked > 0 {
				g = filled(7, friends, asks, asked-1)
			} else if asks > 0 {
				g = filled(7, friends, asks-1, asked)
			} else {
				g = filled(7, friends-1, asks, asked)
			}
			all(t, g, answer{step{"ask", 7, 9}, false, api.OK}, answer{step{"ask", 8, 7}, false, api.ErrFull})
		}
	}
}

func TestRoomBehindWhatEnds(t *testing.T) {
	for _, s := range []step{{"remove", 7, 100}, {"remove", 101, 7}, {"remove", 100, 7}, {"remove", 7, 101}, {"refuse", 105, 7}, {"refuse", 7, 110}, {"block", 7, 100}, {"block", 105, 7}, {"block", 7, 110}} {
		g := filled(7, 5, 5, 6)
		s.do(g)
		all(t, g, answer{step{"ask", 9, 7}, false, api.OK}, answer{step{"ask", 7, 8}, false, api.ErrFull})
	}
}

// Whoever is full may still become a friend of those who asked, and of those who were asked.
func TestTheFullBecomeFriends(t *testing.T) {
	g := filled(7, 4, 6, 6)
	for other := uint32(104); other < 110; other++ {
		all(t, g, answer{step{"ask", 7, other}, false, api.ErrExists}, answer{step{"ask", other, 7}, true, api.OK})
	}
	for other := uint32(110); other < 116; other++ {
		if other%2 == 0 {
			all(t, g, answer{step{"ask", other, 7}, false, api.ErrExists}, answer{step{"ask", 7, other}, true, api.OK})
		} else {
			all(t, g, answer{step{"accept", 7, other}, false, api.OK})
		}
	}
	if l := g.Links(7); len(l.Friends) != 16 || len(l.Asks)+len(l.Asked)+len(l.Blocks) != 0 {
		t.Errorf("%v", l)
	}
	all(t, g, answer{step{"ask", 7, 9}, false, api.ErrFull}, answer{step{"ask", 7, 100}, false, api.ErrExists})
}

// Whom one blocks, and by whom one is blocked, are no links.
func TestBlocksAreNoLinks(t *testing.T) {
	g := filled(7, 5, 5, 5)
	for other := uint32(1); other <= 6; other++ {
		all(t, g, answer{step{"block", 7, 200 + other}, false, api.OK}, answer{step{"block", 300 + other, 7}, false, api.OK})
	}
	all(t, g, answer{step{"ask", 7, 9}, false, api.OK}, answer{step{"ask", 7, 8}, false, api.ErrFull})
}

// Of several errors the first one counts: ErrId, ErrSelf, ErrBlocked, ErrExists, ErrFull.
func TestTheFirstErrorOfAskCounts(t *testing.T) {
	g := filled(7, 5, 5, 6)
	all(t, g,
		answer{step{"ask", 7, 0}, false, api.ErrId},
		answer{step{"ask", 1 << 31, 7}, false, api.ErrId},
		answer{step{"ask", 0, 0}, false, api.ErrId},
		answer{step{"ask", 1 << 31, 1 << 31}, false, api.ErrId},
		answer{step{"ask", 7, 7}, false, api.ErrSelf},
		answer{step{"ask", 7, 100}, false, api.ErrExists},
		answer{step{"ask", 7, 105}, false, api.ErrExists},
		answer{step{"ask", 7, 9}, false, api.ErrFull},
		answer{step{"block", 9, 7}, false, api.OK},
		answer{step{"ask", 7, 9}, false, api.ErrBlocked},
		answer{step{"ask", 9, 7}, false, api.ErrBlocked},
	)
}

// P12.2

func TestAccept(t *testing.T) {
	for _, a := range ids {
		for _, b := range ids {
			if a == b {
				continue
			}
			g := with(step{"ask", b, a})
			// Whoever asks does not accept.
			all(t, g, answer{step{"accept", b, a}, false, api.ErrMissing}, answer{step{"accept", a, b}, false, api.OK})
			if !g.Are(a, b) || !g.Are(b, a) || !same(g.Links(a), friend.Links{Friends: []uint32{b}}) || !same(g.Links(b), friend.Links{Friends: []uint32{a}}) {
				t.Errorf("%d and %d are friends: %v, %v", a, b, g.Links(a), g.Links(b))
			}
			all(t, g, answer{step{"accept", a, b}, false, api.ErrMissing}, answer{step{"accept", b, a}, false, api.ErrMissing})
			all(t, g, answer{step{"refuse", a, b}, false, api.ErrMissing}, answer{step{"refuse", b, a}, false, api.ErrMissing})
		}
	}
}

func TestRefuse(t *testing.T) {
	for _, a := range ids {
		for _, b := range ids {
			if a == b {
				continue
			}
			g := with(step{"ask", b, a})
			all(t, g, answer{step{"refuse", b, a}, false, api.ErrMissing}, answer{step{"refuse", a, b}, false, api.OK})
			if g.Are(a, b) || !none(g.Links(a)) || !none(g.Links(b)) {
				t.Errorf("%d refuses %d: %v, %v", a, b, g.Links(a), g.Links(b))
			}
			// Whoever was refused may ask once more.
			all(t, g, answer{step{"refuse", a, b}, false, api.ErrMissing}, answer{step{"accept", a, b}, false, api.ErrMissing}, answer{step{"ask", b, a}, false, api.OK})
		}
	}
}

func TestRemove(t *testing.T) {
	for _, a := range ids {
		for _, b := range ids {
			if a == b {
				continue
			}
			for _, s := range []step{{"remove", a, b}, {"remove", b, a}} {
				g := with(befriend(a, b)...)
				all(t, g, answer{s, false, api.OK})
				if g.Are(a, b) || g.Are(b, a) || !none(g.Links(a)) || !none(g.Links(b)) {
					t.Errorf("%v of %d and %d: %v, %v", s, a, b, g.Links(a), g.Links(b))
				}
				all(t, g, answer{s, false, api.ErrMissing}, answer{step{"remove", s.b, s.a}, false, api.ErrMissing})
				all(t, g, answer{step{"ask", s.b, s.a}, false, api.OK}, answer{s, false, api.ErrMissing}, answer{step{"remove", s.b, s.a}, false, api.ErrMissing})
			}
		}
	}
}

// What is missing between two is not found between others, nor at what is no id.
func TestMissing(t *testing.T) {
	m, g := &model{}, friend.New()
	for _, s := range append(befriend(1, 2), step{"ask", 3, 1}, step{"block", 1, 4}, step{"ask", 2, 4}) {
		m.try(t, g, s)
	}
	players := append([]uint32{1, 2, 3, 4, 5, last}, wrong...)
	there := []step{{"remove", 1, 2}, {"remove", 2, 1}, {"accept", 1, 3}, {"refuse", 1, 3}, {"unblock", 1, 4}, {"accept", 4, 2}, {"refuse", 4, 2}}
	for _, what := range []string{"accept", "refuse", "remove", "unblock"} {
		for _, a := range players {
			for _, b := range players {
				if s := (step{what, a, b}); !slices.Contains(there, s) {
					all(t, g, answer{s, false, api.ErrMissing})
				}
			}
		}
	}
	m.like(t, g, players...)
}

// P12.3

func TestBlock(t *testing.T) {
	for _, c := range []struct {
		ahead []step
		were  bool
	}{
		{nil, false}, {[]step{{"ask", 1, 2}}, false}, {[]step{{"ask", 2, 1}}, false},
		{befriend(1, 2), true}, {befriend(2, 1), true},
		{[]step{{"ask", 1, 2}, {"ask", 2, 1}}, true}, {[]step{{"ask", 2, 1}, {"ask", 1, 2}}, true},
	} {
		g := with(c.ahead...)
		all(t, g, answer{step{"block", 1, 2}, c.were, api.OK})
		if g.Are(1, 2) || g.Are(2, 1) || !same(g.Links(1), friend.Links{Blocks: []uint32{2}}) || !none(g.Links(2)) {
			t.Errorf("behind %v: %v, %v", c.ahead, g.Links(1), g.Links(2))
		}
		all(t, g,
			answer{step{"block", 1, 2}, false, api.ErrExists},
			answer{step{"accept", 1, 2}, false, api.ErrMissing},
			answer{step{"accept", 2, 1}, false, api.ErrMissing},
			answer{step{"refuse", 1, 2}, false, api.ErrMissing},
			answer{step{"refuse", 2, 1}, false, api.ErrMissing},
			answer{step{"remove", 1, 2}, false, api.ErrMissing},
			answer{step{"unblock", 2, 1}, false, api.ErrMissing},
			answer{step{"unblock", 1, 2}, false, api.OK},
			answer{step{"unblock", 1, 2}, false, api.ErrMissing},
		)
		// What was there ahead of the block does not come back.
		if g.Are(1, 2) || !none(g.Links(1)) || !none(g.Links(2)) {
			t.Errorf("behind %v: %v, %v", c.ahead, g.Links(1), g.Links(2))
		}
	}
}

func TestBothBlock(t *testing.T) {
	g := with(befriend(1, 2)...)
	all(t, g, answer{step{"block", 1, 2}, true, api.OK}, answer{step{"block", 2, 1}, false, api.OK})
	if !same(g.Links(1), friend.Links{Blocks: []uint32{2}}) || !same(g.Links(2), friend.Links{Blocks: []uint32{1}}) {
		t.Errorf("%v, %v", g.Links(1), g.Links(2))
	}
	all(t, g, answer{step{"block", 1, 2}, false, api.ErrExists}, answer{step{"block", 2, 1}, false, api.ErrExists})
	all(t, g, answer{step{"unblock", 1, 2}, false, api.OK})
	if !none(g.Links(1)) || !same(g.Links(2), friend.Links{Blocks: []uint32{1}}) {
		t.Errorf("%v, %v", g.Links(1), g.Links(2))
	}
}

// Who blocks is one to whom nothing else is done: what is between others stays.
func TestBlockLeavesOthers(t *testing.T) {
	g := with(slices.Concat(befriend(1, 2), befriend(1, 3), befriend(3, 2), []step{{"ask", 1, 4}, {"ask", 5, 2}, {"block", 1, 6}})...)
	all(t, g, answer{step{"block", 1, 2}, true, api.OK})
	if !same(g.Links(1), friend.Links{Friends: []uint32{3}, Asks: []uint32{4}, Blocks: []uint32{2, 6}}) ||
		!same(g.Links(2), friend.Links{Friends: []uint32{3}, Asked: []uint32{5}}) || !same(g.Links(3), friend.Links{Friends: []uint32{1, 2}}) {
		t.Errorf("%v, %v, %v", g.Links(1), g.Links(2), g.Links(3))
	}
}

func TestBlockOfMany(t *testing.T) {
	g := with(append(befriend(1, 99), step{"ask", 98, 1})...)
	for other := uint32(2); other < 18; other++ {
		all(t, g, answer{step{"block", 1, other}, false, api.OK})
	}
	all(t, g,
		answer{step{"block", 1, 18}, false, api.ErrFull},
		answer{step{"block", 1, 99}, false, api.ErrFull},
		answer{step{"block", 1, 98}, false, api.ErrFull},
		// Of several errors the first one counts: ErrId, ErrSelf, ErrExists, ErrFull.
		answer{step{"block", 1, 17}, false, api.ErrExists},
		answer{step{"block", 1, 1}, false, api.ErrSelf},
		answer{step{"block", 1, 0}, false, api.ErrId},
		answer{step{"block", 1 << 31, 1 << 31}, false, api.ErrId},
		// Whoever is blocked, how often it may be, blocks as many.
		answer{step{"block", 2, 1}, false, api.OK},
		answer{step{"block", 18, 1}, false, api.OK},
	)
	if !g.Are(1, 99) || !slices.Equal(g.Links(1).Asked, []uint32{98}) || len(g.Links(1).Blocks) != 16 {
		t.Errorf("%v", g.Links(1))
	}
	all(t, g,
		answer{step{"unblock", 1, 5}, false, api.OK},
		answer{step{"block", 1, 99}, true, api.OK},
		answer{step{"block", 1, 98}, false, api.ErrFull},
	)
	for other := uint32(200); other < 240; other++ {
		all(t, g, answer{step{"block", other, 2}, false, api.OK})
	}
}

// P12.4

func TestLinksRise(t *testing.T) {
	r := rand.New(rand.NewSource(1))
	for range 20 {
		g := friend.New()
		var want [4][]uint32
		for i, p := range r.Perm(32) {
			other := uint32(p)*61_000_007 + 1
			kind := min(i/5, 3)
			switch kind {
			case 0:
				g.Ask([]uint32{7, other}[i%2], []uint32{other, 7}[i%2])
				g.Accept([]uint32{other, 7}[i%2], []uint32{7, other}[i%2])
			case 1:
				g.Ask(7, other)
			case 2:
				g.Ask(other, 7)
			case 3:
				if len(want[3]) == 16 {
					continue
				}
				g.Block(7, other)
			}
			want[kind] = append(want[kind], other)
		}
		for i := range want {
			slices.Sort(want[i])
		}
		for range 3 {
			if l := g.Links(7); !same(l, friend.Links{Friends: want[0], Asks: want[1], Asked: want[2], Blocks: want[3]}) {
				t.Errorf("%v, not %v", l, want)
			}
		}
	}
}

func TestAre(t *testing.T) {
	g := with(slices.Concat(befriend(1, 2), befriend(last, 2), []step{{"ask", 3, 1}, {"block", 4, 1}})...)
	friends := [][2]uint32{{1, 2}, {2, 1}, {2, last}, {last, 2}}
	players := append([]uint32{1, 2, 3, 4, 5, last}, wrong...)
	for _, a := range players {
		for _, b := range players {
			if got := g.Are(a, b); got != has(friends, a, b) {
				t.Errorf("%d and %d: %v", a, b, got)
			}
		}
	}
	for _, a := range append([]uint32{5, 6}, wrong...) {
		if !none(g.Links(a)) {
			t.Errorf("%d knows somebody: %v", a, g.Links(a))
		}
	}
}

func TestNilGraph(t *testing.T) {
	var g *friend.Graph
	players := append(slices.Clone(ids), wrong...)
	for _, a := range players {
		for _, b := range players {
			// Whether they are ids or not, and one or not.
			for _, what := range whats {
				all(t, g, answer{step{what, a, b}, false, api.ErrMissing})
			}
			if g.Are(a, b) {
				t.Errorf("%d and %d are friends", a, b)
			}
		}
		if !none(g.Links(a)) {
			t.Errorf("%d knows somebody", a)
		}
	}
}

// P12.5

// steps are all that some players can do to one another, and to themselves.
func steps(players ...uint32) []step {
	var l []step
	for _, what := range whats {
		for _, a := range players {
			for _, b := range players {
				l = append(l, step{what, a, b})
			}
		}
	}
	return l
}

// Whatever two do, up to four things, one behind the other.
func TestAllThatTwoDo(t *testing.T) {
	both := slices.DeleteFunc(steps(1, 2), func(s step) bool { return s.a == s.b })
	ways := 1
	for many := range 5 {
		for way := range ways {
			m, g := &model{}, friend.New()
			for range many {
				m.try(t, g, both[way%len(both)])
				way /= len(both)
			}
			m.like(t, g, 1, 2)
		}
		ways *= len(both)
	}
}

func TestAsTheModelIs(t *testing.T) {
	for _, many := range []int{2, 3, 5, 24, 60} {
		r := rand.New(rand.NewSource(int64(many)))
		m, g := &model{}, friend.New()
		var players []uint32
		for i := range many {
			players = append(players, uint32(i)*uint32(i)+1)
		}
		for i := range 4000 {
			// One who knows many is full at times.
			a, b := players[min(r.Intn(many), r.Intn(many))], players[r.Intn(many)]
			if r.Intn(40) == 0 {
				b = wrong[r.Intn(len(wrong))]
			}
			// Of some things there is more, so that there are many asks and blocks at a time.
			what := whats[[]int{0, 0, 0, 0, 0, 1, 1, 2, 3, 4, 4, 5}[r.Intn(12)]]
			if what == "block" && i%1000 < 600 {
				what = "ask"
			}
			m.try(t, g, step{what, a, b})
			if i%10 == 0 || many < 6 {
				m.like(t, g, players...)
			}
		}
		m.like(t, g, append(players, wrong...)...)
	}
}

// sound fails unless of each two of some players there is but one thing, of which both know, and nobody has more than may be. It is
// how many links and blocks one has at most.
func sound(t *testing.T, g *friend.Graph, players []uint32) (int, int) {
	t.Helper()
	all := map[uint32]friend.Links{}
	for _, p := range players {
		all[p] = g.Links(p)
	}
	mostLinks, mostBlocks := 0, 0
	for p, l := range all {
		mostLinks, mostBlocks = max(mostLinks, len(l.Friends)+len(l.Asks)+len(l.Asked)), max(mostBlocks, len(l.Blocks))
		seen := slices.Concat(l.Friends, l.Asks, l.Asked, l.Blocks)
		slices.Sort(seen)
		if len(slices.Compact(slices.Clone(seen))) != len(seen) || slices.Contains(seen, p) {
			t.Fatalf("%d: %v", p, l)
		}
		for _, f := range l.Friends {
			if !g.Are(p, f) || !g.Are(f, p) || !slices.Contains(all[f].Friends, p) || slices.Contains(all[f].Blocks, p) {
				t.Fatalf("%d and %d: %v, %v", p, f, l, all[f])
			}
		}
		for _, f := range l.Asks {
			if !slices.Contains(all[f].Asked, p) || slices.Contains(all[f].Blocks, p) {
				t.Fatalf("%d asks %d: %v, %v", p, f, l, all[f])
			}
		}
		for _, f := range l.Asked {
			if !slices.Contains(all[f].Asks, p) || slices.Contains(all[f].Blocks, p) {
				t.Fatalf("%d is asked by %d: %v, %v", p, f, l, all[f])
			}
		}
	}
	return mostLinks, mostBlocks
}

// Friends are friends of one another; nobody has more links, or blocks more, than may be.
func TestWhatFollows(t *testing.T) {
	for _, c := range []struct {
		what []int
		// How many players there are, and how many links and blocks one of them has at last, at least.
		many, links, blocks int
	}{
		{[]int{0, 0, 0, 0, 1, 1, 2, 3, 4, 5}, 40, 16, 1},
		{[]int{0, 1, 4, 4, 4, 4, 4, 4, 5}, 40, 1, 16},
		{[]int{0, 0, 1, 2, 3, 4, 5, 5}, 8, 2, 2},
	} {
		r := rand.New(rand.NewSource(5))
		g := friend.New()
		var players []uint32
		for i := range c.many {
			players = append(players, uint32(i)+1)
		}
		links, blocks := 0, 0
		for i := range 4000 {
			step{whats[c.what[r.Intn(len(c.what))]], uint32(r.Intn(c.many) + 1), uint32(r.Intn(c.many) + 1)}.do(g)
			if i%20 == 0 {
				l, b := sound(t, g, players)
				links, blocks = max(links, l), max(blocks, b)
			}
		}
		if links > 16 || blocks > 16 || links < c.links || blocks < c.blocks {
			t.Errorf("at most %d links, %d blocks", links, blocks)
		}
	}
}

// crowd is a graph, and its model, in which one is full of asks and of blocks, and others are all that two can be.
func crowd(t *testing.T) (*model, *friend.Graph) {
	m, g := &model{}, friend.New()
	for other := uint32(100); other < 116; other++ {
		m.try(t, g, step{"ask", 1, other})
		m.try(t, g, step{"block", 1, other + 100})
	}
	for _, s := range append(befriend(3, 2), step{"ask", 2, 4}, step{"block", 4, 3}) {
		m.try(t, g, s)
	}
	return m, g
}

// What is refused changes nothing.
func TestAnErrorChangesNothing(t *testing.T) {
	players := append([]uint32{1, 2, 3, 4, 5, 100, 115, 200, 215}, wrong...)
	m, g := crowd(t)
	refused := 0
	for _, s := range steps(players...) {
		if _, e := s.do(g); e == api.OK {
			// What is not refused is for other tests, and undone here.
			m, g = crowd(t)
			continue
		}
		refused++
		m.like(t, g, players...)
	}
	if refused < 1000 {
		t.Errorf("%d steps are refused", refused)
	}
}

// The rules R4 and R6, and what is kept

func TestAnswersAreTheirOwn(t *testing.T) {
	g := with(slices.Concat(befriend(7, 2), befriend(1, 7), []step{{"ask", 7, 4}, {"ask", 7, 3}, {"ask", 6, 7}, {"ask", 5, 7}, {"block", 7, 9}, {"block", 7, 8}})...)
	want := friend.Links{Friends: []uint32{1, 2}, Asks: []uint32{3, 4}, Asked: []uint32{5, 6}, Blocks: []uint32{8, 9}}
	a, b := g.Links(7), g.Links(7)
	for _, l := range [][]uint32{a.Friends, a.Asks, a.Asked, a.Blocks} {
		l = append(l, 99, 99, 99)[:2]
		for i := range l[:cap(l)] {
			l[:cap(l)][i] = 99
		}
		for i := range a.Friends {
			a.Friends[i], a.Asks[i], a.Asked[i], a.Blocks[i] = 99, 99, 99, 99
		}
	}
	if !same(b, want) || !same(g.Links(7), want) {
		t.Errorf("%v, %v", b, g.Links(7))
	}
	g.Remove(7, 1)
	g.Refuse(4, 7)
	g.Unblock(7, 8)
	if !same(b, want) {
		t.Errorf("an answer changes: %v", b)
	}
}

// The lists of one answer share nothing, either: what is laid behind the one does not show in another one.
func TestListsOfAnAnswerShareNothing(t *testing.T) {
	g := with(slices.Concat(befriend(7, 2), []step{{"ask", 7, 4}, {"ask", 6, 7}, {"block", 7, 9}})...)
	l := g.Links(7)
	_, _, _, _ = append(l.Friends, 99, 99), append(l.Asks, 99, 99), append(l.Asked, 99, 99), append(l.Blocks, 99, 99)
	if !same(l, friend.Links{Friends: []uint32{2}, Asks: []uint32{4}, Asked: []uint32{6}, Blocks: []uint32{9}}) {
		t.Errorf("%v", l)
	}
}

func TestGraphsShareNothing(t *testing.T) {
	a, b := friend.New(), friend.New()
	a.Ask(1, 2)
	a.Block(1, 3)
	if !none(b.Links(1)) || !none(b.Links(2)) || b.Accept(2, 1) != api.ErrMissing {
		t.Error("what is in one graph is in the other one")
	}
	b.Ask(2, 1)
	if a.Refuse(2, 1) != api.OK || !same(b.Links(2), friend.Links{Asks: []uint32{1}}) {
		t.Error("what ends in one graph ends in the other one")
	}
}

// inUse is how much memory is in use.
func inUse() int64 {
	runtime.GC()
	var m runtime.MemStats
	runtime.ReadMemStats(&m)
	return int64(m.HeapAlloc)
}

func TestWhatHasEndedIsNotKept(t *testing.T) {
	g := with(befriend(last, last-1)...)
	before := inUse()
	for i := uint32(1); i < 30000; i++ {
		g.Ask(i, i+1)
		switch i % 4 {
		case 0:
			g.Refuse(i+1, i)
		case 1:
			g.Accept(i+1, i)
			g.Remove(i+1, i)
		case 2:
			g.Block(i+1, i)
			g.Unblock(i+1, i)
		case 3:
			g.Ask(i+1, i)
			g.Remove(i+1, i)
		}
	}
	if more := inUse() - before; more > 1<<18 || !g.Are(last-1, last) {
		t.Errorf("%d bytes of memory", more)
	}
}
