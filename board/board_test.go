package board_test

import (
	"math"
	"math/rand"
	"runtime"
	"slices"
	"testing"

	"tiltyard/api"
	"tiltyard/board"
	"tiltyard/friend"
)

const last = 1<<31 - 1

// ids are some at their edges, wrong are numbers that are none; none are numbers that are no status.
var (
	ids   = []uint32{1, 2, 3, 255, 65536, 1 << 30, last - 1, last}
	wrong = []uint32{0, 1 << 31, 1<<31 + 1, 1<<31 + 7, math.MaxUint32 - 1, math.MaxUint32}
	none  = []int{math.MinInt, -1 << 31, -7, -2, -1, 7, 8, 64, 256, 257, 258, 1<<31 - 1, math.MaxInt}
)

// seen is what is seen of each status, by its number.
var seen = []int{api.Offline, api.Idle, api.Queued, api.Queued, api.Playing, api.Playing, api.Offline}

// change is what is seen of a player now.
func change(player uint32, seen int) board.Change { return board.Change{Player: player, Seen: seen} }

// flushes fails unless a flush tells just these changes.
func flushes(t *testing.T, b *board.Board, want ...board.Change) {
	t.Helper()
	if got := b.Flush(); !slices.Equal(got, want) {
		t.Errorf("%v, not %v", got, want)
	}
}

// is fails unless a player has a status.
func is(t *testing.T, b *board.Board, player uint32, status int) {
	t.Helper()
	if got := b.Status(player); got != status {
		t.Errorf("%d has the status %d, not %d", player, got, status)
	}
}

// P14.1

func TestSeen(t *testing.T) {
	for status, want := range seen {
		if got := board.Seen(status); got != want {
			t.Errorf("of %d is seen %d, not %d", status, got, want)
		}
	}
	for _, status := range none {
		if got := board.Seen(status); got != api.Offline {
			t.Errorf("of %d is seen %d", status, got)
		}
	}
}

func TestNew(t *testing.T) {
	b := board.New()
	for _, player := range slices.Concat(ids, wrong) {
		is(t, b, player, api.Offline)
	}
	for range 2 {
		flushes(t, b)
	}
}

func TestSet(t *testing.T) {
	for _, player := range ids {
		b := board.New()
		// From each status to each.
		for from := range seen {
			for to := range seen {
				b.Set(player, from)
				is(t, b, player, from)
				b.Set(player, to)
				is(t, b, player, to)
				// A flush changes no status.
				b.Flush()
				is(t, b, player, to)
			}
		}
		for _, near := range slices.Concat(ids, wrong, []uint32{player - 1, player + 1}) {
			if near != player {
				is(t, b, near, api.Offline)
			}
		}
	}
}

func TestSetOfWhatIsNoId(t *testing.T) {
	b := board.New()
	for _, player := range wrong {
		for status := range seen {
			b.Set(player, status)
			is(t, b, player, api.Offline)
		}
	}
	for _, player := range slices.Concat(ids, wrong) {
		is(t, b, player, api.Offline)
	}
	flushes(t, b)
}

func TestSetToWhatIsNoStatus(t *testing.T) {
	for _, status := range none {
		for _, ahead := range []int{api.Offline, api.Idle, api.Checking, api.Playing, api.Away} {
			b := board.New()
			b.Set(7, ahead)
			b.Set(8, ahead)
			b.Flush()
			b.Set(7, status)
			is(t, b, 7, api.Offline)
			is(t, b, 8, ahead)
			if seen[ahead] == api.Offline {
				flushes(t, b)
			} else {
				flushes(t, b, change(7, api.Offline))
			}
			// Nor is it offline but for a time.
			b.Set(7, api.Idle)
			flushes(t, b, change(7, api.Idle))
		}
	}
}

// P14.2

func TestTheExample(t *testing.T) {
	b := board.New()
	b.Set(7, api.Checking)
	b.Set(7, api.Queued)
	flushes(t, b, change(7, api.Queued))
	flushes(t, b)
}

// A change is told just when what is seen is another thing than what was told last, whatever was set in between.
func TestFlush(t *testing.T) {
	for told := range seen {
		for between := range seen {
			for now := range seen {
				b := board.New()
				b.Set(7, told)
				if seen[told] == api.Offline {
					flushes(t, b)
				} else {
					flushes(t, b, change(7, seen[told]))
				}
				b.Set(7, between)
				b.Set(7, now)
				if seen[now] == seen[told] {
					flushes(t, b)
				} else {
					flushes(t, b, change(7, seen[now]))
				}
				flushes(t, b)
				is(t, b, 7, now)
			}
		}
	}
}

func TestFlushOfSeveral(t *testing.T) {
	b := board.New()
	for i, player := range []uint32{last, 5, 65536, 1, 255, 1 << 30} {
		b.Set(player, i+1)
	}
	flushes(t, b, change(1, api.Playing), change(5, api.Queued), change(255, api.Playing), change(65536, api.Queued), change(last, api.Idle))
	b.Set(5, api.Checking)
	b.Set(last, api.Offline)
	b.Set(1<<30, api.Idle)
	b.Set(1, api.Away)
	b.Set(2, api.Away)
	flushes(t, b, change(1, api.Offline), change(1<<30, api.Idle), change(last, api.Offline))
	b.Set(1, api.Reserved)
	b.Set(last, api.Away)
	flushes(t, b, change(1, api.Playing))
	flushes(t, b)
}

func TestFlushRises(t *testing.T) {
	r := rand.New(rand.NewSource(2))
	for range 50 {
		b := board.New()
		var want []board.Change
		for _, p := range r.Perm(40) {
			player, status := uint32(p)*53_000_017+1, r.Intn(7)
			b.Set(player, status)
			if seen[status] != api.Offline {
				want = append(want, change(player, seen[status]))
			}
		}
		slices.SortFunc(want, func(a, b board.Change) int { return int(a.Player) - int(b.Player) })
		flushes(t, b, want...)
	}
}

func TestNilBoard(t *testing.T) {
	var b *board.Board
	for _, player := range slices.Concat(ids, wrong) {
		for _, status := range append([]int{api.Idle, api.Playing, api.Away}, none...) {
			b.Set(player, status)
			is(t, b, player, api.Offline)
			flushes(t, b)
		}
	}
}

// P14.3

// friends is a graph in which a player has these friends.
func friends(player uint32, with ...uint32) *friend.Graph {
	g := friend.New()
	for i, other := range with {
		// The one asks the other, and the other way round.
		if i%2 == 0 {
			g.Ask(player, other)
			g.Accept(other, player)
		} else {
			g.Ask(other, player)
			g.Accept(player, other)
		}
	}
	return g
}

// hears fails unless just these are told of a player.
func hears(t *testing.T, g *friend.Graph, player uint32, online []uint32, want ...uint32) {
	t.Helper()
	before := slices.Clone(online)
	if got := board.Audience(g, player, online...); !slices.Equal(got, want) {
		t.Errorf("of %d, while %v are online: %v, not %v", player, online, got, want)
	}
	if !slices.Equal(online, before) {
		t.Errorf("what is handed in is changed: %v, not %v", online, before)
	}
}

func TestAudience(t *testing.T) {
	g := friends(7, 9, last, 3, 4)
	for _, c := range []struct{ online, want []uint32 }{
		{nil, nil},
		{[]uint32{9}, []uint32{9}},
		{[]uint32{8}, nil},
		{[]uint32{9, 3}, []uint32{3, 9}},
		{[]uint32{9, 8, 3, 9}, []uint32{3, 9}},
		{[]uint32{9, 9, 9, 9}, []uint32{9}},
		{[]uint32{4, 3, 4, 3, 9, 4, 9}, []uint32{3, 4, 9}},
		{[]uint32{last, 1, 9, 2, 4, 3, 5, 6, 8}, []uint32{3, 4, 9, last}},
		// A player is no friend of one's own, and what is no id is nobody's.
		{[]uint32{7}, nil},
		{wrong, nil},
		{slices.Concat(wrong, []uint32{7, 4, 7}, wrong), []uint32{4}},
	} {
		hears(t, g, 7, c.online, c.want...)
	}
	// Each of them has the one friend alone.
	all := slices.Concat(ids, wrong, []uint32{7, 9, 4})
	for _, player := range []uint32{9, last, 3, 4} {
		hears(t, g, player, all, 7)
	}
	for _, player := range slices.Concat([]uint32{1, 2, 5, last - 1}, wrong) {
		hears(t, g, player, all)
	}
	hears(t, nil, 7, all)
}

// Who asks, is asked, blocks or was a friend is none.
func TestAudienceIsOfFriendsAlone(t *testing.T) {
	g := friends(7, 1, 2, 3, 4)
	g.Ask(7, 5)
	g.Ask(6, 7)
	g.Block(7, 8)
	g.Block(9, 7)
	g.Remove(7, 2)
	g.Block(3, 7)
	// Friends of a friend are not the player's.
	g.Ask(1, 10)
	g.Ask(10, 1)
	online := []uint32{10, 9, 8, 7, 6, 5, 4, 3, 2, 1}
	hears(t, g, 7, online, 1, 4)
	hears(t, g, 1, online, 7, 10)
	g.Accept(7, 6)
	g.Accept(5, 7)
	hears(t, g, 7, online, 1, 4, 5, 6)
}

func TestAudienceOfMany(t *testing.T) {
	r := rand.New(rand.NewSource(4))
	var with []uint32
	for i := range uint32(16) {
		with = append(with, 1000-i*i)
	}
	g := friends(7, with...)
	for range 200 {
		var online, want []uint32
		for range r.Intn(300) {
			online = append(online, uint32(r.Intn(400)+700))
		}
		for _, other := range with {
			if slices.Contains(online, other) {
				want = append(want, other)
			}
		}
		slices.Sort(want)
		hears(t, g, 7, online, want...)
	}
}

// P14.4

// Behind a flush nothing has changed; whoever was told all changes knows what is seen of everybody.
func TestWhatFollows(t *testing.T) {
	for _, many := range []int{1, 2, 5, 40} {
		r := rand.New(rand.NewSource(int64(many)))
		b := board.New()
		status, known := map[uint32]int{}, map[uint32]int{}
		for range 4000 {
			player, to := uint32(r.Intn(many)*r.Intn(many)+1), r.Intn(7)
			b.Set(player, to)
			status[player] = to
			if r.Intn(20) == 0 {
				player, to = wrong[r.Intn(len(wrong))], none[r.Intn(len(none))]
				b.Set(player, r.Intn(7))
				player = uint32(r.Intn(many) + 1)
				b.Set(player, to)
				status[player] = api.Offline
			}
			if r.Intn(4) > 0 {
				continue
			}
			below := uint32(0)
			for _, c := range b.Flush() {
				if c.Player <= below || known[c.Player] == c.Seen {
					t.Fatalf("%v behind %d, of whom %d is known", c, below, known[c.Player])
				}
				below, known[c.Player] = c.Player, c.Seen
			}
			for player, at := range status {
				if known[player] != seen[at] || b.Status(player) != at {
					t.Fatalf("of %d is known %d, with the status %d, not %d", player, known[player], b.Status(player), at)
				}
			}
			flushes(t, b)
		}
		if len(status) < min(many, 20) {
			t.Errorf("%d players", len(status))
		}
	}
}

// The rules R4 and R6, and what is kept

func TestAnswersAreTheirOwn(t *testing.T) {
	b := board.New()
	b.Set(5, api.Idle)
	b.Set(7, api.Playing)
	l := b.Flush()
	want := slices.Clone(l)
	b.Set(5, api.Offline)
	b.Set(7, api.Idle)
	k := b.Flush()
	if !slices.Equal(l, want) {
		t.Errorf("an answer changes: %v", l)
	}
	l = l[:cap(l)]
	for i := range l {
		l[i] = change(99, 99)
	}
	if !slices.Equal(k, []board.Change{change(5, api.Offline), change(7, api.Idle)}) {
		t.Errorf("%v", k)
	}
	is(t, b, 5, api.Offline)
	is(t, b, 7, api.Idle)
	is(t, b, 99, api.Offline)
	flushes(t, b)
}

func TestAnAudienceIsItsOwn(t *testing.T) {
	g, online := friends(7, 1, 2, 3), []uint32{1, 2, 3}
	a, c := board.Audience(g, 7, online...), board.Audience(g, 7, online...)
	a = append(a, 99)[:cap(a)]
	for i := range a {
		a[i] = 99
	}
	if want := []uint32{1, 2, 3}; !slices.Equal(c, want) || !slices.Equal(online, want) || !slices.Equal(g.Links(7).Friends, want) {
		t.Errorf("%v, %v, %v", c, online, g.Links(7).Friends)
	}
	online[0] = 99
	if !slices.Equal(c, []uint32{1, 2, 3}) {
		t.Errorf("an answer changes: %v", c)
	}
}

func TestBoardsShareNothing(t *testing.T) {
	a, b := board.New(), board.New()
	a.Set(7, api.Playing)
	is(t, b, 7, api.Offline)
	flushes(t, b)
	b.Set(7, api.Idle)
	flushes(t, a, change(7, api.Playing))
	flushes(t, b, change(7, api.Idle))
}

// inUse is how much memory is in use.
func inUse() int64 {
	runtime.GC()
	var m runtime.MemStats
	runtime.ReadMemStats(&m)
	return int64(m.HeapAlloc)
}

func TestWhoIsGoneIsNotKept(t *testing.T) {
	b := board.New()
	b.Set(last, api.Idle)
	b.Flush()
	before := inUse()
	for i := uint32(1); i < 200000; i++ {
		b.Set(i, int(i%7))
		if i%2 == 0 {
			b.Flush()
		}
		b.Set(i, api.Offline)
		b.Flush()
	}
	if more := inUse() - before; more > 1<<18 {
		t.Errorf("%d bytes of memory", more)
	}
	is(t, b, last, api.Idle)
}
