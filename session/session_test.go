package session_test

import (
	"math"
	"math/rand"
	"runtime"
	"slices"
	"testing"

	"tiltyard/api"
	"tiltyard/session"
)

const (
	least = math.MinInt64
	most  = math.MaxInt64
	last  = 1<<31 - 1
)

// ids are some at their edges, wrong are numbers that are none; times are those at the edges of their type, and some between.
var (
	ids   = []uint32{1, 2, 3, 255, 65536, 1 << 30, last - 1, last}
	wrong = []uint32{0, 1 << 31, 1<<31 + 1, 1<<31 + 7, math.MaxUint32 - 1, math.MaxUint32}
	times = []int64{least, least + 1, -1 << 40, -6, -5, -1, 0, 1, 4, 5, 6, 1 << 40, most - 6, most - 5, most - 1, most}
)

// in is a player who is logged in at a connection, or, with 0, a connection at which nobody is.
type in struct{ conn, player uint32 }

// with is a table for so many connections with some, all touched at 0, and with idle time 5.
func with(many int, places ...in) *session.Table {
	t := session.New(many, 5)
	for _, p := range places {
		t.Open(p.conn, 0)
		if p.player != 0 {
			t.Login(p.conn, p.player, 0)
		}
	}
	return t
}

// holds tells whether a table has just these connections, which rise, with these players, whatever is asked of it.
func holds(s *session.Table, places ...in) bool {
	var conns, players []uint32
	for _, p := range places {
		conns = append(conns, p.conn)
		if s.Player(p.conn) != p.player {
			return false
		}
		if p.player != 0 {
			players = append(players, p.player)
			if s.Conn(p.player) != p.conn {
				return false
			}
		}
	}
	slices.Sort(players)
	for _, id := range append(append(conns, players...), append(ids, wrong...)...) {
		for _, near := range []uint32{id - 1, id, id + 1} {
			if !slices.Contains(conns, near) && s.Player(near) != 0 || !slices.Contains(players, near) && s.Conn(near) != 0 {
				return false
			}
		}
	}
	return slices.Equal(s.Conns(), conns) && slices.Equal(s.Players(), players)
}

// sum is a time and some more, as layer 8 has it.
func sum(now, some int64) int64 {
	if some <= 0 {
		return now
	}
	if now > most-some {
		return most
	}
	return now + some
}

// idleAt tells whether the one connection of a table is idle at a time.
func idleAt(t *testing.T, s *session.Table, now int64) bool {
	t.Helper()
	idle := s.Idle(now)
	if len(idle) > 1 || len(idle) == 1 && !slices.Equal(idle, s.Conns()) {
		t.Errorf("at %d %v are idle, of %v", now, idle, s.Conns())
	}
	return len(idle) == 1
}

// touchedAt fails unless the one connection of a table, with the idle time 5, was touched last at a time.
func touchedAt(t *testing.T, s *session.Table, at int64) {
	t.Helper()
	if idleAt(t, s, at+4) || !idleAt(t, s, at+5) {
		t.Errorf("it was not touched last at %d", at)
	}
}

// P10.1

func TestNew(t *testing.T) {
	for _, many := range []int{math.MinInt, -1 << 31, -2, -1, 0, 1, 2, 3, 64, 300} {
		s := session.New(many, 5)
		if s == nil || !holds(s) || len(s.Idle(most)) != 0 {
			t.Errorf("a table for %d is not empty", many)
		}
		for conn := range uint32(max(many, 0)) {
			if e := s.Open(conn+1, 0); e != api.OK {
				t.Errorf("a table for %d does not take %d: error %d", many, conn+1, e)
			}
		}
		for range 2 {
			if e := s.Open(last, 0); e != api.ErrFull || len(s.Conns()) != max(many, 0) {
				t.Errorf("a table for %d takes more: error %d, %d", many, e, len(s.Conns()))
			}
		}
	}
}

func TestATableForManyTakesNoRoomAhead(t *testing.T) {
	before := inUse()
	s := session.New(math.MaxInt, 5)
	if e := s.Open(last, 0); e != api.OK {
		t.Errorf("error %d", e)
	}
	if more := inUse() - before; more > 1<<20 || !holds(s, in{last, 0}) {
		t.Errorf("%d bytes of memory", more)
	}
}

func TestOpen(t *testing.T) {
	for _, conn := range ids {
		for _, now := range times {
			s := session.New(2, 0)
			if e := s.Open(conn, now); e != api.OK || !holds(s, in{conn, 0}) {
				t.Errorf("%d at %d: error %d", conn, now, e)
			}
			if !idleAt(t, s, now) || now > least && idleAt(t, s, now-1) {
				t.Errorf("%d at %d: not touched then", conn, now)
			}
			if e := s.Open(conn, now); e != api.ErrExists || !holds(s, in{conn, 0}) {
				t.Errorf("%d at %d once more: error %d", conn, now, e)
			}
		}
	}
	for _, conn := range wrong {
		s := session.New(2, 5)
		if e := s.Open(conn, 0); e != api.ErrId || !holds(s) {
			t.Errorf("%d: error %d", conn, e)
		}
	}
}

// Layer 7's errors, of which the first one counts: ErrId, ErrExists, ErrFull.
func TestTheFirstErrorOfOpenCounts(t *testing.T) {
	full, room := with(2, in{4, 0}, in{9, 7}), with(3, in{4, 0}, in{9, 7})
	for _, s := range []*session.Table{full, room, session.New(0, 5)} {
		for _, conn := range wrong {
			if e := s.Open(conn, 0); e != api.ErrId {
				t.Errorf("%d beside %v: error %d", conn, s.Conns(), e)
			}
		}
	}
	if full.Open(4, 1) != api.ErrExists || full.Open(9, 1) != api.ErrExists || full.Open(5, 1) != api.ErrFull || !holds(full, in{4, 0}, in{9, 7}) {
		t.Error("in a full table")
	}
	if room.Open(4, 1) != api.ErrExists || room.Open(9, 1) != api.ErrExists || room.Open(5, 1) != api.OK || !holds(room, in{4, 0}, in{5, 0}, in{9, 7}) {
		t.Error("in a table with room")
	}
}

// A connection that is there is not touched by an Open that fails.
func TestOpenOfWhatIsThereTouchesNothing(t *testing.T) {
	s := with(1, in{4, 7})
	s.Open(4, 100)
	touchedAt(t, s, 0)
}

func TestClose(t *testing.T) {
	s := with(3, in{4, 0}, in{9, 7}, in{last, last})
	for _, conn := range append([]uint32{1, 3, 5, 7, 8, 10, last - 1}, wrong...) {
		if p, e := s.Close(conn); p != 0 || e != api.ErrMissing || len(s.Conns()) != 3 {
			t.Errorf("%d: %d, error %d", conn, p, e)
		}
	}
	left := []in{{4, 0}, {9, 7}, {last, last}}
	for _, i := range []int{1, 0, 0} {
		gone := left[i]
		left = slices.Delete(left, i, i+1)
		if p, e := s.Close(gone.conn); p != gone.player || e != api.OK || !holds(s, left...) {
			t.Errorf("%v: %d, error %d; %v are left", gone, p, e, s.Conns())
		}
		if p, e := s.Close(gone.conn); p != 0 || e != api.ErrMissing || !holds(s, left...) {
			t.Errorf("%v once more: %d, error %d", gone, p, e)
		}
	}
}

func TestCloseMakesRoom(t *testing.T) {
	s := with(2, in{4, 7}, in{9, 8})
	s.Close(4)
	if s.Open(5, 0) != api.OK || s.Open(6, 0) != api.ErrFull || !holds(s, in{5, 0}, in{9, 8}) {
		t.Errorf("%v", s.Conns())
	}
	// Who was at a connection that is closed is not there when it is opened anew, and may be elsewhere.
	s.Close(5)
	s.Open(4, 0)
	if p, e := s.Login(4, 7, 0); p != 0 || e != api.OK || !holds(s, in{4, 7}, in{9, 8}) {
		t.Errorf("%d, error %d", p, e)
	}
}

func TestTouch(t *testing.T) {
	for _, player := range []uint32{0, 7} {
		s := with(1, in{4, player})
		// Ahead of the time ahead, too.
		for _, now := range []int64{3, 100, 3, 0, -50, 1 << 40} {
			if e := s.Touch(4, now); e != api.OK || !holds(s, in{4, player}) {
				t.Errorf("error %d", e)
			}
			touchedAt(t, s, now)
		}
		for _, conn := range append([]uint32{3, 5, 7}, wrong...) {
			if e := s.Touch(conn, 5); e != api.ErrMissing || !holds(s, in{4, player}) {
				t.Errorf("%d: error %d", conn, e)
			}
		}
		touchedAt(t, s, 1<<40)
	}
}

// P10.2

func TestTheExample(t *testing.T) {
	s := session.New(2, 5)
	if s.Open(1, 0) != api.OK || s.Open(2, 0) != api.OK {
		t.Error("Open of 1 and 2")
	}
	if c, e := s.Login(1, 7, 0); c != 0 || e != api.OK || !holds(s, in{1, 7}, in{2, 0}) {
		t.Errorf("Login of 7 at 1: %d, error %d", c, e)
	}
	if c, e := s.Login(2, 7, 0); c != 1 || e != api.OK || !holds(s, in{2, 7}) {
		t.Errorf("Login of 7 at 2: %d, error %d, %v are there", c, e, s.Conns())
	}
	if p, e := s.Close(1); p != 0 || e != api.ErrMissing {
		t.Errorf("Close of 1: %d, error %d", p, e)
	}
}

func TestLogin(t *testing.T) {
	for _, conn := range ids {
		for _, player := range ids {
			s := with(1, in{conn, 0})
			if c, e := s.Login(conn, player, 30); c != 0 || e != api.OK || !holds(s, in{conn, player}) {
				t.Errorf("%d at %d: %d, error %d", player, conn, c, e)
			}
			touchedAt(t, s, 30)
		}
		for _, player := range wrong {
			s := with(1, in{conn, 0})
			if c, e := s.Login(conn, player, 30); c != 0 || e != api.ErrId || !holds(s, in{conn, 0}) {
				t.Errorf("%d at %d: %d, error %d", player, conn, c, e)
			}
			touchedAt(t, s, 0)
		}
	}
}

// Who is logged in at another connection moves, and the other one is closed; what nobody is at stays.
func TestLoginElsewhere(t *testing.T) {
	for _, from := range []uint32{1, 4, last} {
		for _, to := range []uint32{1, 4, last} {
			if from == to {
				continue
			}
			s := with(5, in{1, 0}, in{3, 0}, in{4, 0}, in{9, 8}, in{last, 0})
			s.Login(from, 7, 0)
			want := []in{{1, 0}, {3, 0}, {4, 0}, {9, 8}, {last, 0}}
			want = slices.DeleteFunc(want, func(p in) bool { return p.conn == from })
			for i := range want {
				if want[i].conn == to {
					want[i].player = 7
				}
			}
			if c, e := s.Login(to, 7, 2); c != from || e != api.OK || !holds(s, want...) {
				t.Errorf("from %d to %d: %d, error %d", from, to, c, e)
			}
			if e := s.Touch(from, 2); e != api.ErrMissing {
				t.Errorf("from %d to %d: it is there still, error %d", from, to, e)
			}
			if idle := s.Idle(6); slices.Contains(idle, to) || len(idle) != 3 {
				t.Errorf("from %d to %d: at 6 %v are idle", from, to, idle)
			}
		}
	}
}

// Where somebody is logged in nobody can be, not even the same one.
func TestLoginWhereSomebodyIs(t *testing.T) {
	s := with(2, in{1, 7}, in{2, 8})
	for _, player := range []uint32{7, 8, 9, 1, last} {
		for _, conn := range []uint32{1, 2} {
			if c, e := s.Login(conn, player, 3); c != 0 || e != api.ErrLogin || !holds(s, in{1, 7}, in{2, 8}) {
				t.Errorf("%d at %d: %d, error %d", player, conn, c, e)
			}
		}
	}
	if idle := s.Idle(5); !slices.Equal(idle, []uint32{1, 2}) {
		t.Errorf("at 5 %v are idle", idle)
	}
}

// Of several errors the first one counts: ErrMissing, ErrId, ErrLogin.
func TestTheFirstErrorOfLoginCounts(t *testing.T) {
	s := with(2, in{1, 7}, in{2, 0})
	for _, c := range []struct {
		conn, player uint32
		want         api.Errno
	}{
		{3, 0, api.ErrMissing}, {3, 7, api.ErrMissing}, {3, 8, api.ErrMissing}, {0, 0, api.ErrMissing}, {1 << 31, 7, api.ErrMissing},
		{1, 0, api.ErrId}, {1, 1 << 31, api.ErrId}, {2, 0, api.ErrId}, {2, math.MaxUint32, api.ErrId},
		{1, 7, api.ErrLogin}, {1, 8, api.ErrLogin},
	} {
		if conn, e := s.Login(c.conn, c.player, 0); conn != 0 || e != c.want || !holds(s, in{1, 7}, in{2, 0}) {
			t.Errorf("%d at %d: %d, error %d, not %d", c.player, c.conn, conn, e, c.want)
		}
	}
}

// A player may have a connection's number, and in a full table players come and go, too.
func TestPlayersAreNoConnections(t *testing.T) {
	s := with(2, in{1, 2}, in{2, 1})
	if s.Player(1) != 2 || s.Conn(1) != 2 || !holds(s, in{1, 2}, in{2, 1}) {
		t.Error("1 and 2 are mixed up")
	}
	s.Logout(1)
	if c, e := s.Login(1, 1, 0); c != 2 || e != api.OK || !holds(s, in{1, 1}) {
		t.Errorf("%d, error %d", c, e)
	}
}

func TestLogout(t *testing.T) {
	s := with(1, in{4, 7})
	s.Touch(4, 20)
	for _, conn := range append([]uint32{3, 5, 7}, wrong...) {
		if p, e := s.Logout(conn); p != 0 || e != api.ErrMissing || !holds(s, in{4, 7}) {
			t.Errorf("%d: %d, error %d", conn, p, e)
		}
	}
	if p, e := s.Logout(4); p != 7 || e != api.OK || !holds(s, in{4, 0}) {
		t.Errorf("%d, error %d", p, e)
	}
	if p, e := s.Logout(4); p != 0 || e != api.ErrLogin || !holds(s, in{4, 0}) {
		t.Errorf("once more: %d, error %d", p, e)
	}
	// It was not touched by that.
	touchedAt(t, s, 20)
	if c, e := s.Login(4, 8, 30); c != 0 || e != api.OK || !holds(s, in{4, 8}) {
		t.Errorf("behind it: %d, error %d", c, e)
	}
	if p, e := s.Close(4); p != 8 || e != api.OK || !holds(s) {
		t.Errorf("at the end: %d, error %d", p, e)
	}
}

// P10.3

func TestPlayerAndConn(t *testing.T) {
	s := with(5, in{1, 9}, in{3, 0}, in{4, last}, in{7, 1}, in{last, 4})
	for range 2 {
		if !holds(s, in{1, 9}, in{3, 0}, in{4, last}, in{7, 1}, in{last, 4}) {
			t.Errorf("%v, %v", s.Conns(), s.Players())
		}
	}
	// At 3 nobody is logged in: no number is who is there.
	if p, c := s.Player(3), s.Conn(0); p != 0 || c != 0 {
		t.Errorf("%d is at 3, nobody at %d", p, c)
	}
	if got := s.Players(); !slices.Equal(got, []uint32{1, 4, 9, last}) {
		t.Errorf("players %v", got)
	}
}

func TestIdle(t *testing.T) {
	for _, some := range times {
		for _, touched := range times {
			s := session.New(1, some)
			s.Open(7, touched)
			for _, now := range times {
				if got, want := idleAt(t, s, now), now >= sum(touched, some); got != want {
					t.Errorf("touched at %d, idle time %d: at %d %v", touched, some, now, got)
				}
			}
		}
	}
}

func TestIdleOfSeveral(t *testing.T) {
	s := session.New(5, 5)
	for conn, touched := range map[uint32]int64{9: 3, 1: 4, 4: 2, last: 2, 5: 90} {
		s.Open(conn, touched)
	}
	s.Login(5, 7, 4)
	for _, c := range []struct {
		now  int64
		want []uint32
	}{
		{least, nil}, {0, nil}, {6, nil}, {7, []uint32{4, last}}, {8, []uint32{4, 9, last}}, {9, []uint32{1, 4, 5, 9, last}}, {most, []uint32{1, 4, 5, 9, last}},
	} {
		// Who is idle stays till it is closed.
		for range 2 {
			if got := s.Idle(c.now); !slices.Equal(got, c.want) || len(s.Conns()) != 5 {
				t.Errorf("at %d: %v, not %v", c.now, got, c.want)
			}
		}
	}
	s.Touch(4, 8)
	s.Close(9)
	if got := s.Idle(8); !slices.Equal(got, []uint32{last}) {
		t.Errorf("at 8 %v", got)
	}
}

func TestNilTable(t *testing.T) {
	var s *session.Table
	for _, conn := range append(slices.Clone(ids), wrong...) {
		if e := s.Open(conn, 0); e != api.ErrFull {
			t.Errorf("Open of %d: error %d", conn, e)
		}
		for _, player := range []uint32{0, 7, 1 << 31} {
			if c, e := s.Login(conn, player, 0); c != 0 || e != api.ErrMissing {
				t.Errorf("Login of %d at %d: %d, error %d", player, conn, c, e)
			}
		}
		p, e := s.Logout(conn)
		q, f := s.Close(conn)
		if p != 0 || e != api.ErrMissing || q != 0 || f != api.ErrMissing || s.Touch(conn, 0) != api.ErrMissing {
			t.Errorf("%d: %d, error %d; %d, error %d", conn, p, e, q, f)
		}
	}
	if !holds(s) || len(s.Idle(most)) != 0 {
		t.Error("a nil table has connections")
	}
}

// P10.4

// place is a connection of the model.
type place struct {
	player  uint32
	touched int64
}

// model is what the chapter says of a table, by a map alone.
type model struct {
	many  int
	idle  int64
	conns map[uint32]place
}

func (m *model) open(conn uint32, now int64) api.Errno {
	_, there := m.conns[conn]
	switch {
	case conn < 1 || conn > last:
		return api.ErrId
	case there:
		return api.ErrExists
	case len(m.conns) >= m.many:
		return api.ErrFull
	}
	m.conns[conn] = place{touched: now}
	return api.OK
}

func (m *model) login(conn, player uint32, now int64) (uint32, api.Errno) {
	here, there := m.conns[conn]
	switch {
	case !there:
		return 0, api.ErrMissing
	case player < 1 || player > last:
		return 0, api.ErrId
	case here.player != 0:
		return 0, api.ErrLogin
	}
	moved := uint32(0)
	for other, p := range m.conns {
		if p.player == player {
			moved = other
		}
	}
	delete(m.conns, moved)
	m.conns[conn] = place{player, now}
	return moved, api.OK
}

func (m *model) logout(conn uint32) (uint32, api.Errno) {
	here, there := m.conns[conn]
	switch {
	case !there:
		return 0, api.ErrMissing
	case here.player == 0:
		return 0, api.ErrLogin
	}
	m.conns[conn] = place{touched: here.touched}
	return here.player, api.OK
}

func (m *model) close(conn uint32) (uint32, api.Errno) {
	here, there := m.conns[conn]
	if !there {
		return 0, api.ErrMissing
	}
	delete(m.conns, conn)
	return here.player, api.OK
}

func (m *model) touch(conn uint32, now int64) api.Errno {
	here, there := m.conns[conn]
	if !there {
		return api.ErrMissing
	}
	m.conns[conn] = place{here.player, now}
	return api.OK
}

// like fails unless a table is as the model is, whatever is asked of it, at a time.
func (m *model) like(t *testing.T, s *session.Table, now int64) {
	t.Helper()
	var places []in
	var idle []uint32
	for conn, p := range m.conns {
		places = append(places, in{conn, p.player})
		if now >= sum(p.touched, m.idle) {
			idle = append(idle, conn)
		}
	}
	slices.SortFunc(places, func(a, b in) int { return int(a.conn) - int(b.conn) })
	slices.Sort(idle)
	if !holds(s, places...) {
		t.Fatalf("%v, %v, not %v", s.Conns(), s.Players(), places)
	}
	if got := s.Idle(now); !slices.Equal(got, idle) {
		t.Fatalf("at %d %v are idle, not %v", now, got, idle)
	}
}

// step does one thing, to a table and to the model, and fails unless both say the same.
func (m *model) step(t *testing.T, s *session.Table, r *rand.Rand, now int64) {
	t.Helper()
	conn, player := uint32(r.Intn(m.many*3/2+3)), uint32(r.Intn(m.many*3/2+3))
	if r.Intn(12) == 0 {
		conn, player = []uint32{0, last, 1 << 31}[r.Intn(3)], []uint32{0, last, 1 << 31}[r.Intn(3)]
	}
	var got, want uint32
	var e, f api.Errno
	kind := r.Intn(9)
	switch {
	case kind < 2:
		e, f = s.Open(conn, now), m.open(conn, now)
	case kind < 5:
		got, e = s.Login(conn, player, now)
		want, f = m.login(conn, player, now)
	case kind < 6:
		got, e = s.Logout(conn)
		want, f = m.logout(conn)
	case kind < 7:
		got, e = s.Close(conn)
		want, f = m.close(conn)
	default:
		e, f = s.Touch(conn, now), m.touch(conn, now)
	}
	if got != want || e != f {
		t.Fatalf("step of kind %d, %d at %d: %d, error %d, not %d, error %d", kind, player, conn, got, e, want, f)
	}
}

func TestAsTheModelIs(t *testing.T) {
	for _, many := range []int{0, 1, 2, 3, 7, 16} {
		r := rand.New(rand.NewSource(int64(many)))
		m, s := &model{many, 5, map[uint32]place{}}, session.New(many, 5)
		for range 2000 {
			m.step(t, s, r, int64(r.Intn(20)))
			m.like(t, s, int64(r.Intn(25)))
		}
	}
}

// Nobody is logged in twice, and a connection's player is where that one is.
func TestNobodyIsLoggedInTwice(t *testing.T) {
	r := rand.New(rand.NewSource(9))
	s := session.New(12, 5)
	for range 5000 {
		conn, player := uint32(r.Intn(14)), uint32(r.Intn(8))
		s.Open(conn, 0)
		s.Login(conn, player, 0)
		if r.Intn(3) == 0 {
			s.Logout(uint32(r.Intn(14)))
		}
		if r.Intn(4) == 0 {
			s.Close(uint32(r.Intn(14)))
		}
		seen := map[uint32]uint32{}
		for _, c := range s.Conns() {
			p := s.Player(c)
			if p == 0 {
				continue
			}
			if seen[p] != 0 || s.Conn(p) != c {
				t.Fatalf("%d is at %d and at %d", p, c, max(seen[p], s.Conn(p)))
			}
			seen[p] = c
		}
		if players := s.Players(); len(players) != len(seen) || !slices.IsSorted(players) {
			t.Fatalf("%v are logged in, not %v", players, seen)
		}
	}
}

func TestManyConnections(t *testing.T) {
	const many = 1000
	s := session.New(many, 5)
	r := rand.New(rand.NewSource(1))
	at := r.Perm(many)
	for conn := range uint32(many) {
		if s.Open(conn+1, int64(conn)) != api.OK {
			t.Fatalf("%d is not taken", conn+1)
		}
	}
	for i, p := range at {
		if c, e := s.Login(uint32(i)+1, uint32(p)+1, int64(i)); c != 0 || e != api.OK {
			t.Fatalf("%d at %d: %d, error %d", p+1, i+1, c, e)
		}
	}
	for i, p := range at {
		if s.Conn(uint32(p)+1) != uint32(i)+1 || s.Player(uint32(i)+1) != uint32(p)+1 {
			t.Fatalf("%d is at %d", p+1, s.Conn(uint32(p)+1))
		}
	}
	if l := s.Players(); len(l) != many || !slices.IsSorted(l) || len(s.Idle(many/2+4)) != many/2 {
		t.Errorf("%d players, %d are idle", len(l), len(s.Idle(many/2+4)))
	}
}

// The table's ways: the calls of the rack that is embedded in it are its own.

func TestTheRacksCallsAreTheTables(t *testing.T) {
	s := with(4, in{2, 7}, in{9, 0})
	next, is := s.Next(2)
	if s.Len() != 2 || s.Most() != 4 || s.Free() != 1 || next != 9 || !is || !slices.Equal(s.Ids(), s.Conns()) {
		t.Errorf("%d of %d, free %d, behind 2 stands %d", s.Len(), s.Most(), s.Free(), next)
	}
	// What is dropped so is there no more, whoever was logged in at it.
	if _, was := s.Drop(2); !was || !holds(s, in{9, 0}) {
		t.Errorf("%v, %v", s.Conns(), s.Players())
	}
}

// The rules R4 and R6, and what is kept

func TestAnswersAreTheirOwn(t *testing.T) {
	s := with(8, in{2, 9}, in{4, 8}, in{6, 0})
	ask := []func() []uint32{s.Conns, s.Players, func() []uint32 { return s.Idle(5) }}
	want := [][]uint32{{2, 4, 6}, {8, 9}, {2, 4, 6}}
	for i, list := range ask {
		a, b := list(), list()
		a = append(a, 99, 99, 99)
		for j := range a[:cap(a)] {
			a[:cap(a)][j] = 99
		}
		if !slices.Equal(b, want[i]) || !slices.Equal(list(), want[i]) || !holds(s, in{2, 9}, in{4, 8}, in{6, 0}) {
			t.Errorf("%d: %v, %v", i, b, list())
		}
	}
	kept := s.Conns()
	s.Close(2)
	s.Open(1, 0)
	if !slices.Equal(kept, []uint32{2, 4, 6}) {
		t.Errorf("an answer changes: %v", kept)
	}
}

func TestTablesShareNothing(t *testing.T) {
	a, b := session.New(2, 5), session.New(2, 5)
	a.Open(1, 0)
	a.Login(1, 7, 0)
	if !holds(b) || b.Open(1, 3) != api.OK || !holds(b, in{1, 0}) || !holds(a, in{1, 7}) {
		t.Error("what is in one table is in the other one")
	}
	b.Login(1, 7, 3)
	if a.Logout(1); !holds(a, in{1, 0}) || !holds(b, in{1, 7}) {
		t.Error("who leaves one table leaves the other one")
	}
}

func TestToAskChangesNothing(t *testing.T) {
	m, s := &model{4, 5, map[uint32]place{}}, session.New(4, 5)
	for conn := range uint32(3) {
		s.Open(conn+1, int64(conn))
		m.open(conn+1, int64(conn))
	}
	s.Login(2, 7, 3)
	m.login(2, 7, 3)
	for now := range int64(12) {
		m.like(t, s, now)
	}
}

// inUse is how much memory is in use.
func inUse() int64 {
	runtime.GC()
	var m runtime.MemStats
	runtime.ReadMemStats(&m)
	return int64(m.HeapAlloc)
}

func TestWhatIsClosedIsNotKept(t *testing.T) {
	s := session.New(2, 5)
	s.Open(last, 0)
	before := inUse()
	for i := range uint32(200000) {
		if e := s.Open(i+1, 0); e != api.OK {
			t.Fatalf("%d: error %d", i+1, e)
		}
		s.Login(i+1, i+1, 0)
		s.Close(i + 1)
	}
	if more := inUse() - before; more > 1<<20 || !holds(s, in{last, 0}) {
		t.Errorf("%v hold %d bytes of memory", s.Conns(), more)
	}
}
