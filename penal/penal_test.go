package penal_test

import (
	"math"
	"math/big"
	"math/rand"
	"runtime"
	"slices"
	"testing"

	"tiltyard/api"
	"tiltyard/penal"
)

const (
	least = math.MinInt64
	most  = math.MaxInt64
	last  = 1<<31 - 1
)

// ids are some at their edges, wrong are numbers that are none; times are those at the edges of their type, and some between.
var (
	ids   = []uint32{1, 2, 3, 255, 65536, 1 << 30, last - 1, last}
	wrong = []uint32{0, 1 << 31, 1<<31 + 1, 1<<31 + 7, math.MaxUint32 - 1, math.MaxUint32}
	times = []int64{
		least, least + 1, least + 60, least + 9999, least + 10000, least + 60000, -1 << 40, -60001, -60000, -10001, -10000, -9999, -61, -1,
		0, 1, 59, 60, 61, 9999, 10000, 10001, 19999, 20000, 49999, 50000, 59999, 60000, 60001, 86400, 1 << 40,
		most - 86400, most - 60000, most - 10000, most - 9999, most - 60, most - 1, most,
	}
)

// levels are all that may be, and some beyond.
var levels = []int{math.MinInt, -1 << 31, -7, -1, 0, 1, 2, 3, 4, 5, 6, 7, 8, 256, 257, 1<<31 - 1, math.MaxInt}

// ladder is for how long one is banned at each level.
var ladder = []int64{0, 60, 300, 900, 3600, 14400, 86400}

// mark is a mark.
func mark(level int, since, until int64) penal.Mark {
	return penal.Mark{Level: level, Since: since, Until: until}
}

// same fails unless two marks are one.
func same(t *testing.T, what string, got, want penal.Mark) {
	t.Helper()
	if got != want {
		t.Errorf("%s: %v, not %v", what, got, want)
	}
}

// allMarks goes through marks of all levels, since and until all times.
func allMarks(yield func(penal.Mark) bool) {
	for _, level := range levels {
		for _, since := range times {
			for _, until := range times {
				if !yield(mark(level, since, until)) {
					return
				}
			}
		}
	}
}

// less is a time less another one, however far they are apart.
func less(a, b int64) *big.Int { return new(big.Int).Sub(big.NewInt(a), big.NewInt(b)) }

// at is what the chapter says of a mark at a time, level by level.
func at(m penal.Mark, now int64) penal.Mark {
	if m.Level < 0 {
		m.Level = 0
	}
	if m.Level > 6 {
		m.Level = 6
	}
	for m.Level > 0 && less(now, m.Since).Cmp(big.NewInt(10000)) >= 0 {
		m.Level--
		m.Since += 10000
	}
	if m.Level == 0 {
		m.Since = 0
		if m.Until <= now {
			m.Until = 0
		}
	}
	return m
}

// hit is what the chapter says of a mark behind a hit.
func hit(m penal.Mark, now int64) penal.Mark {
	m = at(m, now)
	if m.Level < 6 {
		m.Level++
	}
	until := int64(most)
	if less(most, now).Cmp(big.NewInt(ladder[m.Level])) >= 0 {
		until = now + ladder[m.Level]
	}
	if until > m.Until {
		m.Until = until
	}
	m.Since = now
	return m
}

// P16.1

func TestTheExample(t *testing.T) {
	m := penal.Mark{}.Hit(100)
	same(t, "a hit", m, mark(1, 100, 160))
	m = m.Hit(120)
	same(t, "once more", m, mark(2, 120, 420))
	same(t, "at 10120", m.At(10120), mark(1, 10120, 420))
	if m.At(10119).Level != 2 {
		t.Errorf("%v", m.At(10119))
	}
}

func TestAt(t *testing.T) {
	for _, c := range []struct {
		m    penal.Mark
		now  int64
		want penal.Mark
	}{
		{penal.Mark{}, 0, penal.Mark{}},
		{mark(3, 500, 9000), 500, mark(3, 500, 9000)},
		{mark(3, 500, 9000), 10499, mark(3, 500, 9000)},
		{mark(3, 500, 9000), 10500, mark(2, 10500, 9000)},
		{mark(3, 500, 9000), 20499, mark(2, 10500, 9000)},
		{mark(3, 500, 9000), 20500, mark(1, 20500, 9000)},
		{mark(3, 500, 9000), 30499, mark(1, 20500, 9000)},
		{mark(3, 500, 9000), 30500, penal.Mark{}},
		{mark(3, 500, 9000), most, penal.Mark{}},
		// A time that is ahead of since takes no level.
		{mark(3, 500, 9000), 499, mark(3, 500, 9000)},
		{mark(3, 500, 9000), -20000, mark(3, 500, 9000)},
		{mark(3, 500, 9000), least, mark(3, 500, 9000)},
		{mark(6, most, most), least, mark(6, most, most)},
		// At the level 0 until stays as long as it is behind the time, above it in any case.
		{mark(6, 0, 86400), 59999, mark(1, 50000, 86400)},
		{mark(6, 0, 86400), 60000, mark(0, 0, 86400)},
		{mark(6, 0, 86400), 86399, mark(0, 0, 86400)},
		{mark(6, 0, 86400), 86400, penal.Mark{}},
		{mark(6, 0, 7), 59999, mark(1, 50000, 7)},
		{mark(0, 77, 100), 50, mark(0, 0, 100)},
		{mark(0, 77, 100), 99, mark(0, 0, 100)},
		{mark(0, 77, 100), 100, penal.Mark{}},
		{mark(0, 77, -100), -101, mark(0, 0, -100)},
		{mark(0, 77, -100), -100, penal.Mark{}},
		{mark(2, -100, -50), 9899, mark(2, -100, -50)},
		{mark(2, -100, -50), 9900, mark(1, 9900, -50)},
		// A level below 0 is 0, above 6 it is 6.
		{mark(-1, 5, 100), 99, mark(0, 0, 100)},
		{mark(math.MinInt, 5, 5), 99, penal.Mark{}},
		{mark(7, 5, 100), 4, mark(6, 5, 100)},
		{mark(math.MaxInt, 5, 100), 10005, mark(5, 10005, 100)},
		{mark(100, 5, 100), 60005, penal.Mark{}},
		// However far the times are apart.
		{mark(6, least, most), most, penal.Mark{}},
		{mark(6, least, most), most - 1, mark(0, 0, most)},
		{mark(6, least, 0), least + 59999, mark(1, least+50000, 0)},
		{mark(6, most-59999, 0), most, mark(1, most-9999, 0)},
		{mark(1, -1, most), most - 1, mark(0, 0, most)},
	} {
		if got := c.m.At(c.now); got != c.want {
			t.Errorf("%v at %d: %v, not %v", c.m, c.now, got, c.want)
		}
	}
}

func TestHit(t *testing.T) {
	for _, c := range []struct {
		m    penal.Mark
		now  int64
		want penal.Mark
	}{
		{penal.Mark{}, 0, mark(1, 0, 60)},
		{mark(1, 0, 60), 0, mark(2, 0, 300)},
		{mark(2, 0, 300), 0, mark(3, 0, 900)},
		{mark(3, 0, 900), 0, mark(4, 0, 3600)},
		{mark(4, 0, 3600), 0, mark(5, 0, 14400)},
		{mark(5, 0, 14400), 0, mark(6, 0, 86400)},
		{mark(6, 0, 86400), 0, mark(6, 0, 86400)},
		{mark(6, 0, 86400), 9, mark(6, 9, 86409)},
		// It is the mark at the time that is hit.
		{mark(2, 0, 300), 9999, mark(3, 9999, 10899)},
		{mark(2, 0, 300), 10000, mark(2, 10000, 10300)},
		{mark(2, 0, 300), 20000, mark(1, 20000, 20060)},
		{mark(6, 0, 300), 10000, mark(6, 10000, 96400)},
		{mark(6, 0, 300), 20000, mark(5, 20000, 34400)},
		// Until is what it was, if that is later.
		{mark(6, 0, 86400), 60000, mark(1, 60000, 86400)},
		{mark(6, 0, 86400), 86339, mark(1, 86339, 86400)},
		{mark(6, 0, 86400), 86340, mark(1, 86340, 86400)},
		{mark(6, 0, 86400), 86341, mark(1, 86341, 86401)},
		{mark(1, 0, most), 5, mark(2, 5, most)},
		// Time may be ahead of since, or below 0: what until was is 0 then.
		{mark(1, 100, 160), 50, mark(2, 50, 350)},
		{mark(1, 100, 160), -1000, mark(2, -1000, 160)},
		{penal.Mark{}, -30, mark(1, -30, 30)},
		{penal.Mark{}, -60, mark(1, -60, 0)},
		{penal.Mark{}, -100, mark(1, -100, 0)},
		{mark(0, 0, -200), -300, mark(1, -300, -200)},
		{mark(0, 0, -200), -230, mark(1, -230, -170)},
		{mark(1, -5000, -4940), -1000, mark(2, -1000, -700)},
		// The last moment is behind all.
		{penal.Mark{}, most, mark(1, most, most)},
		{penal.Mark{}, most - 60, mark(1, most-60, most)},
		{penal.Mark{}, most - 61, mark(1, most-61, most-1)},
		{mark(6, most-5, 0), most - 1, mark(6, most-1, most)},
		// A level below 0 is 0, above 6 it is 6.
		{mark(-9, 0, 0), 5, mark(1, 5, 65)},
		{mark(math.MinInt, 0, 0), 5, mark(1, 5, 65)},
		{mark(9, 0, 0), 5, mark(6, 5, 86405)},
		{mark(math.MaxInt, 0, 0), 20000, mark(5, 20000, 34400)},
	} {
		if got := c.m.Hit(c.now); got != c.want {
			t.Errorf("%v at %d: %v, not %v", c.m, c.now, got, c.want)
		}
	}
}

func TestLeft(t *testing.T) {
	for _, c := range []struct{ until, now, want int64 }{
		{0, 0, 0}, {60, 0, 60}, {60, 59, 1}, {60, 60, 0}, {60, 61, 0}, {60, most, 0}, {420, 400, 20}, {60, -60, 120},
		{-60, -61, 1}, {-60, -60, 0}, {-60, 0, 0}, {0, -1, 1},
		{most, 0, most}, {most, 1, most - 1}, {most, -1, most}, {most, least, most}, {most, most - 1, 1}, {most, most, 0},
		{0, least, most}, {-1, least, most}, {-2, least, most - 1}, {least, least, 0}, {least, most, 0}, {least + 1, least, 1}, {1, least, most},
	} {
		// It is the same whatever the level is, and since when.
		for _, level := range levels {
			for _, since := range times {
				if got := mark(level, since, c.until).Left(c.now); got != c.want {
					t.Fatalf("until %d at %d: %d, not %d", c.until, c.now, got, c.want)
				}
			}
		}
	}
}

func TestAllMarksAreAsTheChapterSays(t *testing.T) {
	for m := range allMarks {
		before := m
		for _, now := range times {
			if got, want := m.At(now), at(m, now); got != want {
				t.Fatalf("%v at %d: %v, not %v", m, now, got, want)
			}
			if got, want := m.Hit(now), hit(m, now); got != want {
				t.Fatalf("%v hit at %d: %v, not %v", m, now, got, want)
			}
		}
		same(t, "what is asked changes nothing", m, before)
	}
}

func TestLeftOfAll(t *testing.T) {
	for _, until := range times {
		for _, now := range times {
			want := less(until, now)
			if want.Sign() < 0 {
				want = big.NewInt(0)
			}
			if want.Cmp(big.NewInt(most)) > 0 {
				want = big.NewInt(most)
			}
			if got := mark(1, 0, until).Left(now); got != want.Int64() {
				t.Errorf("until %d at %d: %d, not %d", until, now, got, want)
			}
		}
	}
}

// P16.2

// hits fails unless a hit answers a mark, and the book has it then.
func hits(t *testing.T, b *penal.Book, player uint32, now int64, want penal.Mark) {
	t.Helper()
	got, e := b.Hit(player, now)
	if got != want || e != api.OK || b.Mark(player, now) != want {
		t.Errorf("%d at %d: %v and %d, not %v; it has %v", player, now, got, e, want, b.Mark(player, now))
	}
}

// fails fails unless a hit answers an error, and nothing beside it.
func fails(t *testing.T, b *penal.Book, player uint32, now int64, e api.Errno) {
	t.Helper()
	if got, is := b.Hit(player, now); is != e || got != (penal.Mark{}) {
		t.Errorf("%d at %d: %v and %d, not %d", player, now, got, is, e)
	}
}

// holds fails unless just these have a mark.
func holds(t *testing.T, b *penal.Book, want ...uint32) {
	t.Helper()
	if got := b.Players(); !slices.Equal(got, want) {
		t.Errorf("%v, not %v", got, want)
	}
}

// sweeps fails unless a sweep takes so many.
func sweeps(t *testing.T, b *penal.Book, now int64, want int) {
	t.Helper()
	if got := b.Sweep(now); got != want {
		t.Errorf("at %d: %d, not %d", now, got, want)
	}
}

func TestNew(t *testing.T) {
	for _, many := range []int{math.MinInt, -1 << 31, -2, -1, 0, 1, 2, 3, 64, 100} {
		b := penal.New(many)
		holds(t, b)
		sweeps(t, b, most, 0)
		var want []uint32
		for i := range uint32(max(many, 0)) {
			hits(t, b, 1000+i, 5, mark(1, 5, 65))
			want = append(want, 1000+i)
		}
		for _, player := range ids {
			fails(t, b, player, 5, api.ErrFull)
			same(t, "none", b.Mark(player, 5), penal.Mark{})
		}
		holds(t, b, want...)
	}
}

func TestABookOfManyTakesNoRoomAhead(t *testing.T) {
	before := inUse()
	b := penal.New(math.MaxInt)
	hits(t, b, 1, 0, mark(1, 0, 60))
	if more := inUse() - before; more > 1<<20 {
		t.Errorf("%d bytes of memory", more)
	}
	runtime.KeepAlive(b)
}

func TestHitUpTheLadder(t *testing.T) {
	for _, player := range ids {
		b := penal.New(1)
		for level, ticks := range ladder {
			if level > 0 {
				hits(t, b, player, int64(level), mark(level, int64(level), int64(level)+ticks))
			}
		}
		hits(t, b, player, 9, mark(6, 9, 86409))
		hits(t, b, player, 10, mark(6, 10, 86410))
		for _, near := range slices.Concat(ids, wrong, []uint32{player - 1, player + 1}) {
			if near != player {
				same(t, "another one", b.Mark(near, 10), penal.Mark{})
			}
		}
		holds(t, b, player)
	}
}

func TestHitOfWhatIsNoId(t *testing.T) {
	full := penal.New(1)
	full.Hit(7, 0)
	for _, b := range []*penal.Book{penal.New(3), penal.New(0), full} {
		before := b.Players()
		for _, player := range wrong {
			for _, now := range times {
				fails(t, b, player, now, api.ErrId)
			}
			same(t, "none", b.Mark(player, 5), penal.Mark{})
			if b.Banned(player, 0) {
				t.Errorf("%d is banned", player)
			}
		}
		holds(t, b, before...)
	}
	same(t, "the one who has one", full.Mark(7, 0), mark(1, 0, 60))
}

func TestHitOfAFullBook(t *testing.T) {
	b := penal.New(2)
	hits(t, b, 9, 0, mark(1, 0, 60))
	hits(t, b, 4, 0, mark(1, 0, 60))
	fails(t, b, 5, 0, api.ErrFull)
	// Whoever has one there can be hit.
	hits(t, b, 9, 0, mark(2, 0, 300))
	hits(t, b, 4, 10, mark(2, 10, 310))
	holds(t, b, 4, 9)
	// A mark that has become the zero one takes its place till it is swept.
	same(t, "later", b.Mark(9, 20000), penal.Mark{})
	fails(t, b, 5, 20000, api.ErrFull)
	holds(t, b, 4, 9)
	sweeps(t, b, 20000, 1)
	hits(t, b, 5, 20000, mark(1, 20000, 20060))
	holds(t, b, 4, 5)
	fails(t, b, 9, 20000, api.ErrFull)
	same(t, "that of 4", b.Mark(4, 20000), mark(1, 10010, 310))
}

func TestMark(t *testing.T) {
	b := penal.New(4)
	for range 6 {
		b.Hit(7, 100)
	}
	for _, c := range []struct {
		now  int64
		want penal.Mark
	}{
		{100, mark(6, 100, 86500)}, {least, mark(6, 100, 86500)}, {10099, mark(6, 100, 86500)}, {10100, mark(5, 10100, 86500)},
		{60099, mark(1, 50100, 86500)}, {60100, mark(0, 0, 86500)}, {86499, mark(0, 0, 86500)}, {86500, penal.Mark{}}, {most, penal.Mark{}},
		// To look at a later time takes nothing.
		{100, mark(6, 100, 86500)},
	} {
		same(t, "the mark", b.Mark(7, c.now), c.want)
	}
	for _, now := range times {
		same(t, "of 8", b.Mark(8, now), penal.Mark{})
		for _, player := range wrong {
			same(t, "of nobody", b.Mark(player, now), penal.Mark{})
		}
	}
	holds(t, b, 7)
}

func TestBanned(t *testing.T) {
	b := penal.New(4)
	b.Hit(7, 100)
	b.Hit(7, 120)
	b.Hit(9, 1000)
	for _, c := range []struct {
		player uint32
		now    int64
		want   bool
	}{
		{7, 0, true}, {7, 100, true}, {7, 120, true}, {7, 419, true}, {7, 420, false}, {7, 421, false}, {7, 20120, false}, {7, most, false},
		{9, 1000, true}, {9, 1059, true}, {9, 1060, false}, {8, 0, false}, {8, 100, false}, {8, most, false}, {0, 100, false}, {1<<31 + 7, 100, false},
		{7, 419, true},
	} {
		if got := b.Banned(c.player, c.now); got != c.want {
			t.Errorf("%d at %d: %t", c.player, c.now, got)
		}
	}
	// The ban outlasts the level.
	for range 6 {
		b.Hit(3, 0)
	}
	if !b.Banned(3, 86399) || b.Mark(3, 86399).Level != 0 || b.Banned(3, 86400) {
		t.Errorf("%v", b.Mark(3, 86399))
	}
}

// The zero mark's until is 0, and a time below 0 is ahead of that.
func TestBannedBelowZero(t *testing.T) {
	b := penal.New(4)
	b.Hit(7, -100000)
	for _, player := range []uint32{7, 8} {
		for _, now := range []int64{least, -100000, -50000, -1} {
			if !b.Banned(player, now) {
				t.Errorf("%d is not banned at %d", player, now)
			}
		}
		if b.Banned(player, 0) {
			t.Errorf("%d is banned at 0", player)
		}
	}
}

func TestSweep(t *testing.T) {
	b := penal.New(8)
	b.Hit(9, 0)
	b.Hit(3, 0)
	b.Hit(3, 0)
	b.Hit(last, 5)
	for range 6 {
		b.Hit(4, 0)
	}
	sweeps(t, b, 0, 0)
	sweeps(t, b, 9999, 0)
	holds(t, b, 3, 4, 9, last)
	sweeps(t, b, 10000, 1)
	holds(t, b, 3, 4, last)
	sweeps(t, b, 10000, 0)
	sweeps(t, b, least, 0)
	sweeps(t, b, 20000, 2)
	holds(t, b, 4)
	// A mark of the level 0 whose ban goes on is not the zero mark.
	sweeps(t, b, 86399, 0)
	same(t, "the ban", b.Mark(4, 86399), mark(0, 0, 86400))
	sweeps(t, b, 86400, 1)
	holds(t, b)
	sweeps(t, b, most, 0)
	// Whoever was swept begins anew.
	hits(t, b, 4, 86400, mark(1, 86400, 86460))
}

func TestSweepOfSeveralSideBySide(t *testing.T) {
	b := penal.New(200)
	var stay []uint32
	for i := uint32(1); i <= 200; i++ {
		b.Hit(i, 0)
		if i%7 == 0 || i > 190 && i < 195 {
			b.Hit(i, 1)
			stay = append(stay, i)
		}
	}
	sweeps(t, b, 10001, 200-len(stay))
	holds(t, b, stay...)
	for _, player := range stay {
		same(t, "who stays", b.Mark(player, 10001), mark(1, 10001, 301))
	}
}

func TestNilBook(t *testing.T) {
	var b *penal.Book
	for _, now := range times {
		for _, player := range slices.Concat(ids, wrong) {
			fails(t, b, player, now, api.ErrFull)
			same(t, "of nil", b.Mark(player, now), penal.Mark{})
			if b.Banned(player, now) {
				t.Errorf("%d is banned at %d", player, now)
			}
		}
		sweeps(t, b, now, 0)
		holds(t, b)
	}
}

func TestPlayersRise(t *testing.T) {
	r := rand.New(rand.NewSource(3))
	b := penal.New(500)
	var want []uint32
	for _, p := range r.Perm(500) {
		player := uint32(p)*4_000_037 + 1
		b.Hit(player, int64(p))
		want = append(want, player)
	}
	slices.Sort(want)
	holds(t, b, want...)
}

// P16.3

// A later look in between changes nothing: be it at the mark as it was then, or in the book.
func TestALookInBetweenChangesNothing(t *testing.T) {
	for m := range allMarks {
		for i, early := range times {
			seen := m.At(early)
			for _, late := range times[i:] {
				if seen.At(late) != m.At(late) || seen.Hit(late) != m.Hit(late) {
					t.Fatalf("%v at %d, then at %d: %v and %v, not %v and %v", m, early, late, seen.At(late), seen.Hit(late), m.At(late), m.Hit(late))
				}
			}
		}
	}
}

func TestLooksAtABookChangeNothing(t *testing.T) {
	r := rand.New(rand.NewSource(4))
	for range 300 {
		looked, left := penal.New(3), penal.New(3)
		now := int64(0)
		for range 40 {
			now += []int64{0, 1, 59, 9999, 10000, 30000}[r.Intn(6)]
			player := uint32(r.Intn(3) + 1)
			for range r.Intn(4) {
				at := now + int64(r.Intn(100000)-50000)
				looked.Mark(player, at)
				looked.Banned(player, at)
				looked.Players()
				// What is swept at the time is what would be the zero mark from then on.
				looked.Sweep(now)
			}
			m, e := looked.Hit(player, now)
			n, f := left.Hit(player, now)
			if m != n || e != f {
				t.Fatalf("%d at %d: %v and %d, not %v and %d", player, now, m, e, n, f)
			}
		}
	}
}

// Who is hit again is banned at least as long.
func TestWhoIsHitAgainIsBannedAtLeastAsLong(t *testing.T) {
	for m := range allMarks {
		for _, now := range times {
			again := m.Hit(now)
			if again.Until < m.At(now).Until || m.Until > now && again.Until < m.Until || again.Left(now) < m.Left(now) {
				t.Fatalf("%v hit at %d: %v", m, now, again)
			}
		}
	}
}

// model is what the chapter says of a book, by a map of marks alone.
type model struct {
	most  int
	marks map[uint32]penal.Mark
}

func (m model) hit(player uint32, now int64) (penal.Mark, api.Errno) {
	old, is := m.marks[player]
	switch {
	case player < 1 || player > last:
		return penal.Mark{}, api.ErrId
	case !is && len(m.marks) >= m.most:
		return penal.Mark{}, api.ErrFull
	}
	m.marks[player] = hit(old, now)
	return m.marks[player], api.OK
}

func (m model) sweep(now int64) int {
	swept := 0
	for player, mark := range m.marks {
		if at(mark, now) == (penal.Mark{}) {
			delete(m.marks, player)
			swept++
		}
	}
	return swept
}

func (m model) players() []uint32 {
	var l []uint32
	for player := range m.marks {
		l = append(l, player)
	}
	slices.Sort(l)
	return l
}

func TestAsTheModelIs(t *testing.T) {
	for _, c := range []struct{ most, many int }{{0, 3}, {1, 3}, {3, 4}, {8, 12}, {64, 70}} {
		r := rand.New(rand.NewSource(int64(c.most*100 + c.many)))
		m, b := model{most: c.most, marks: map[uint32]penal.Mark{}}, penal.New(c.most)
		now := int64(-3000)
		full, swept, high := 0, 0, 0
		for range 20000 {
			now += int64(r.Intn(3) * r.Intn(400))
			player, when := uint32(r.Intn(c.many)+1), now
			if r.Intn(30) == 0 {
				player = wrong[r.Intn(len(wrong))]
			}
			if r.Intn(30) == 0 {
				when += int64(r.Intn(90000) - 40000)
			}
			got, e := b.Hit(player, when)
			want, f := m.hit(player, when)
			if got != want || e != f {
				t.Fatalf("%d at %d: %v and %d, not %v and %d", player, when, got, e, want, f)
			}
			if e == api.ErrFull {
				full++
			}
			high = max(high, got.Level)
			if r.Intn(10) == 0 {
				some := b.Sweep(when)
				if some != m.sweep(when) {
					t.Fatalf("%d are swept at %d", some, when)
				}
				swept += some
			}
			player = uint32(r.Intn(c.many) + 1)
			mark := at(m.marks[player], when)
			if b.Mark(player, when) != mark || b.Banned(player, when) != (when < mark.Until) || !slices.Equal(b.Players(), m.players()) {
				t.Fatalf("%d at %d: %v, not %v", player, when, b.Mark(player, when), mark)
			}
			if r.Intn(400) == 0 {
				now += int64(r.Intn(100000))
			}
		}
		if full == 0 || c.most > 0 && swept == 0 || c.most > 0 && high < 3 {
			t.Errorf("of %d it was full %d times, %d were swept, up to the level %d", c.most, full, swept, high)
		}
	}
}

// The book's ways: the calls of the rack that is embedded in it are its own.

func TestTheRacksCallsAreTheBooks(t *testing.T) {
	b := penal.New(4)
	b.Hit(5, 0)
	b.Hit(3, 10)
	next, is := b.Next(3)
	if b.Len() != 2 || b.Most() != 4 || b.Free() != 1 || next != 5 || !is || !slices.Equal(b.Ids(), b.Players()) {
		t.Errorf("%d of %d, free %d, behind 3 stands %d", b.Len(), b.Most(), b.Free(), next)
	}
	if m, is := b.Get(3); !is || m != mark(1, 10, 70) {
		t.Errorf("%v", m)
	}
	if m, was := b.Drop(3); !was || m != mark(1, 10, 70) {
		t.Errorf("%v was dropped", m)
	}
	holds(t, b, 5)
	// What is laid there may have any level.
	b.Put(7, mark(99, 0, 5))
	same(t, "what was laid there", b.Mark(7, 10000), mark(5, 10000, 5))
	hits(t, b, 7, 20000, mark(5, 20000, 34400))
}

// The rules R4 and R6, and what is kept

func TestAnswersAreTheirOwn(t *testing.T) {
	b := penal.New(4)
	b.Hit(5, 0)
	b.Hit(7, 0)
	l, k := b.Players(), b.Players()
	for _, list := range [][]uint32{l, append(l, 99)} {
		list = list[:cap(list)]
		for i := range list {
			list[i] = 99
		}
	}
	if !slices.Equal(k, []uint32{5, 7}) {
		t.Errorf("%v", k)
	}
	holds(t, b, 5, 7)
	b.Sweep(10000)
	b.Hit(1, 0)
	if !slices.Equal(k, []uint32{5, 7}) {
		t.Errorf("an answer changes: %v", k)
	}
	holds(t, b, 1)
}

func TestBooksShareNothing(t *testing.T) {
	a, b := penal.New(2), penal.New(2)
	a.Hit(7, 0)
	holds(t, b)
	hits(t, b, 7, 50, mark(1, 50, 110))
	same(t, "the one", a.Mark(7, 0), mark(1, 0, 60))
	sweeps(t, a, most, 1)
	holds(t, a)
	holds(t, b, 7)
}

func TestAnErrorChangesNothing(t *testing.T) {
	b := penal.New(1)
	b.Hit(7, 100)
	for _, player := range slices.Concat(ids, wrong) {
		for _, now := range times {
			if _, e := b.Hit(player, now); e == api.OK {
				t.Fatalf("%d is hit at %d", player, now)
			}
			same(t, "the one", b.Mark(7, 100), mark(1, 100, 160))
			holds(t, b, 7)
		}
	}
}

// inUse is how much memory is in use.
func inUse() int64 {
	runtime.GC()
	var m runtime.MemStats
	runtime.ReadMemStats(&m)
	return int64(m.HeapAlloc)
}

func TestWhatIsSweptIsNotKept(t *testing.T) {
	b := penal.New(2)
	for range 6 {
		b.Hit(last, most-1)
	}
	before := inUse()
	for i := uint32(1); i < 200000; i++ {
		now := int64(i) * 10000
		hits(t, b, i, now, mark(1, now, now+60))
		b.Mark(i+1, now)
		b.Banned(i+2, now)
		sweeps(t, b, now+10000, 1)
	}
	if more := inUse() - before; more > 1<<18 {
		t.Errorf("%d bytes of memory", more)
	}
	holds(t, b, last)
}
