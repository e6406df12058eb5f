package fill_test

import (
	"math"
	"math/big"
	"math/rand"
	"slices"
	"testing"

	"tiltyard/draft"
	"tiltyard/fill"
	"tiltyard/plan"
	"tiltyard/queue"
)

const (
	least = math.MinInt64
	most  = math.MaxInt64
)

// Times, ratings, windows and numbers at the edges of their types, and at those of what may be, and some between.
var (
	times   = []int64{least, least + 1, -1 << 62, -10, -1, 0, 1, 9, 10, 11, 1 << 62, most - 1, most}
	ratings = []int{math.MinInt, math.MinInt + 1, -1, 0, 1, 99, 100, 1500, 9900, 9901, 9999, 10000, 10001, math.MaxInt - 1, math.MaxInt}
	windows = []int{math.MinInt, -1, 0, 1, 99, 100, 101, 9999, 10000, 10001, math.MaxInt}
	numbers = []int{math.MinInt, math.MinInt + 1, -1 << 31, -5, -2, -1, 0, 1, 2, 3, 4, 5, 6, 256, 257, 1<<31 - 1, math.MaxInt - 1, math.MaxInt}
)

// wide is a mode in which all fit.
func wide(k int) plan.Mode { return plan.Mode{K: k, Base: 10000, Cap: 10000, Every: 1} }

// growing is a mode whose window is 100 at first, and 50 more for each 10 ticks, but at most 300.
func growing(k int) plan.Mode { return plan.Mode{K: k, Base: 100, Step: 50, Cap: 300, Every: 10} }

// wrongModes are modes each of which is not right by one thing alone.
func wrongModes() []plan.Mode {
	var l []plan.Mode
	for _, does := range []func(m *plan.Mode){
		func(m *plan.Mode) { m.K = 0 }, func(m *plan.Mode) { m.K = -1 }, func(m *plan.Mode) { m.K = 5 }, func(m *plan.Mode) { m.K = math.MaxInt }, func(m *plan.Mode) { m.K = math.MinInt },
		func(m *plan.Mode) { m.Base = -1 }, func(m *plan.Mode) { m.Base = 10001 }, func(m *plan.Mode) { m.Cap = 9999 }, func(m *plan.Mode) { m.Cap = 10001 },
		func(m *plan.Mode) { m.Step = -1 }, func(m *plan.Mode) { m.Step = 10001 },
		func(m *plan.Mode) { m.Every = 0 }, func(m *plan.Mode) { m.Every = -1 }, func(m *plan.Mode) { m.Every = 1<<40 + 1 },
	} {
		m := wide(2)
		does(&m)
		l = append(l, m)
	}
	return append(l, plan.Mode{})
}

// of is a ticket of so many players, since 0.
func of(many, rating int) queue.Ticket {
	return queue.Ticket{Players: make([]uint32, many), Rating: rating}
}

// since is a ticket that waits since another time.
func since(at int64, t queue.Ticket) queue.Ticket {
	t.Since = at
	return t
}

// row is one of so many players in a team.
func row(team, many, rating, window int) fill.Row {
	return fill.Row{Team: team, Players: make([]uint32, many), Rating: rating, Window: window}
}

// sizes are rows of so many players, those of the team 1 and then those of the team 2, beside which all fit.
func sizes(first, second []int) []fill.Row {
	var l []fill.Row
	for _, many := range first {
		l = append(l, row(1, many, 1500, 10000))
	}
	for _, many := range second {
		l = append(l, row(2, many, 1500, 10000))
	}
	return l
}

// near are rows of one player each, of these ratings, whose windows are wide.
func near(ratings ...int) []fill.Row {
	var l []fill.Row
	for i, r := range ratings {
		l = append(l, row(i%2+1, 1, r, 10000))
	}
	return l
}

// What the chapter says, said as plainly as may be.

// wait is how long a ticket has waited.
func wait(now, since int64) int64 {
	d := new(big.Int).Sub(big.NewInt(now), big.NewInt(since))
	switch {
	case d.Sign() < 0:
		return 0
	case !d.IsInt64():
		return most
	}
	return d.Int64()
}

// counted is what counts as a rating.
func counted(rating int) int {
	switch {
	case rating < 0:
		return 0
	case rating > 10000:
		return 10000
	}
	return rating
}

// sits: may a ticket sit beside rows?
func sits(m plan.Mode, now int64, t queue.Ticket, rows ...fill.Row) bool {
	window := m.Window(wait(now, t.Since))
	for _, r := range rows {
		d := counted(t.Rating) - counted(r.Rating)
		if d > window || -d > window || d > r.Window || -d > r.Window {
			return false
		}
	}
	return m.Wrong() == ""
}

// players are how many those of a team are.
func players(team int, rows ...fill.Row) int {
	all := 0
	for _, r := range rows {
		if r.Team == team {
			all += len(r.Players)
		}
	}
	return all
}

// team is the one that has room.
func team(m plan.Mode, many int, rows ...fill.Row) int {
	best := 0
	for team := 1; team <= 2; team++ {
		sum := new(big.Int).Add(big.NewInt(int64(players(team, rows...))), big.NewInt(int64(many)))
		has := many >= 1 && m.Wrong() == "" && sum.Cmp(big.NewInt(int64(m.K))) <= 0
		if has && (best == 0 || players(team, rows...) < players(best, rows...)) {
			best = team
		}
	}
	return best
}

// found is a place, a team, and whether there is one.
type found struct {
	place, team int
	is          bool
}

// first is the first ticket that may sit down.
func first(m plan.Mode, now int64, l []queue.Ticket, rows ...fill.Row) found {
	for place := range l {
		if sits(m, now, l[place], rows...) && team(m, len(l[place].Players), rows...) != 0 {
			return found{place, team(m, len(l[place].Players), rows...), true}
		}
	}
	return found{}
}

// find is what Find answers.
func find(m plan.Mode, now int64, l []queue.Ticket, rows ...fill.Row) found {
	place, team, is := fill.Find(m, now, l, rows...)
	return found{place, team, is}
}

// finds fails unless just this is found.
func finds(t *testing.T, m plan.Mode, now int64, l []queue.Ticket, rows []fill.Row, want found) {
	t.Helper()
	if got := find(m, now, l, rows...); got != want {
		t.Errorf("%v beside %v at %d: %v, not %v", l, rows, now, got, want)
	}
}

// P19.1

func TestTaken(t *testing.T) {
	for _, c := range []struct {
		rows          []fill.Row
		first, second int
	}{
		{nil, 0, 0},
		{[]fill.Row{}, 0, 0},
		{sizes([]int{1}, nil), 1, 0},
		{sizes(nil, []int{1}), 0, 1},
		{sizes([]int{1, 2, 1}, []int{3, 1}), 4, 4},
		{sizes([]int{4}, []int{0, 2, 0}), 4, 2},
		{[]fill.Row{row(2, 1, 0, 0), row(1, 3, 0, 0), row(2, 2, 0, 0)}, 3, 3},
		// More than may be count as well, and a team that is none does not.
		{sizes([]int{300, 7}, []int{1000}), 307, 1000},
		{[]fill.Row{row(0, 1, 0, 0), row(3, 2, 0, 0), row(-1, 3, 0, 0), row(-2, 3, 0, 0), row(1, 1, 0, 0), row(math.MaxInt, 4, 0, 0), row(math.MinInt, 4, 0, 0), row(257, 4, 0, 0), row(258, 4, 0, 0)}, 1, 0},
		// Neither ratings nor windows do.
		{[]fill.Row{row(1, 1, math.MaxInt, math.MinInt), row(2, 2, math.MinInt, math.MaxInt)}, 1, 2},
		{slices.Repeat(sizes([]int{2}, []int{3}), 500), 1000, 1500},
	} {
		if first, second := fill.Taken(c.rows...); first != c.first || second != c.second {
			t.Errorf("%v: %d %d, not %d %d", c.rows, first, second, c.first, c.second)
		}
	}
}

func TestTheExample(t *testing.T) {
	rows := sizes([]int{1}, []int{2})
	if got := fill.Team(wide(2), 1, rows...); got != 1 {
		t.Errorf("%d", got)
	}
	finds(t, wide(2), 0, []queue.Ticket{of(1, 1500)}, rows, found{0, 1, true})
}

func TestFits(t *testing.T) {
	m := growing(2)
	for _, c := range []struct {
		t    queue.Ticket
		now  int64
		rows []fill.Row
		want bool
	}{
		{of(1, 1600), 0, near(1500), true},
		{of(1, 1601), 0, near(1500), false},
		{of(1, 1400), 0, near(1500), true},
		{of(1, 1399), 0, near(1500), false},
		// The ticket's window grows as it waits.
		{of(1, 1601), 9, near(1500), false},
		{of(1, 1601), 10, near(1500), true},
		{of(1, 1650), 10, near(1500), true},
		{of(1, 1651), 10, near(1500), false},
		{of(1, 1800), 1000, near(1500), true},
		{of(1, 1801), 1000, near(1500), false},
		{since(3, of(1, 1601)), 12, near(1500), false},
		{since(3, of(1, 1601)), 13, near(1500), true},
		// A row's is that which it has, and does not grow.
		{of(1, 1550), 0, []fill.Row{row(1, 1, 1500, 50)}, true},
		{of(1, 1551), 0, []fill.Row{row(1, 1, 1500, 50)}, false},
		{of(1, 1449), 1000, []fill.Row{row(1, 1, 1500, 50)}, false},
		{of(1, 1450), 1000, []fill.Row{row(1, 1, 1500, 50)}, true},
		{of(1, 1500), 0, []fill.Row{row(1, 1, 1500, 0)}, true},
		{of(1, 1501), 0, []fill.Row{row(1, 1, 1500, 0)}, false},
		{of(1, 1500), 0, []fill.Row{row(1, 1, 1500, -1)}, false},
		{of(1, 1500), 0, []fill.Row{row(1, 1, 1500, math.MinInt)}, false},
		{of(1, 1600), 0, []fill.Row{row(1, 1, 1500, math.MaxInt)}, true},
		{of(1, 1601), 0, []fill.Row{row(1, 1, 1500, math.MaxInt)}, false},
		// All of the rows count, whichever team they are in, each by its own window.
		{of(1, 1600), 0, near(1500, 1550, 1600, 1700), true},
		{of(1, 1600), 0, near(1499, 1550, 1600, 1700), false},
		{of(1, 1600), 0, near(1500, 1550, 1600, 1701), false},
		{of(1, 1600), 0, near(1500, 1499, 1600, 1700), false},
		{of(1, 1550), 0, []fill.Row{row(1, 1, 1500, 50), row(2, 1, 1560, 10)}, true},
		{of(1, 1550), 0, []fill.Row{row(1, 1, 1500, 50), row(2, 1, 1561, 10)}, false},
		{of(1, 1550), 0, []fill.Row{row(1, 1, 1500, 49), row(2, 1, 1560, 10)}, false},
		{of(1, 1550), 0, []fill.Row{row(0, 1, 1500, 49)}, false},
		{of(1, 1550), 0, []fill.Row{row(7, 0, 1500, 49)}, false},
		// How far the rows are from one another does not.
		{of(1, 1600), 0, near(1500, 1700), true},
		// Beside no rows all may sit.
		{of(1, 1500), 0, nil, true},
		{of(1, math.MaxInt), least, []fill.Row{}, true},
		// A time that is behind now has not come yet; far ones are as far as may be.
		{since(most, of(1, 1600)), least, near(1500), true},
		{since(most, of(1, 1601)), least, near(1500), false},
		{since(least, of(1, 1800)), most, near(1500), true},
		{since(least, of(1, 1801)), most, near(1500), false},
		// Ratings count as the nearest that may be, the ticket's and the rows'.
		{of(1, -7), 0, near(100), true},
		{of(1, math.MinInt), 0, near(100), true},
		{of(1, math.MinInt), 0, near(101), false},
		{of(1, math.MaxInt), 0, near(9900), true},
		{of(1, 10001), 0, near(9899), false},
		{of(1, 100), 0, near(-7, math.MinInt), true},
		{of(1, 101), 0, near(math.MinInt), false},
		{of(1, 9900), 0, near(10001, math.MaxInt), true},
		{of(1, 9899), 0, near(10001), false},
		{of(1, math.MinInt), 0, near(math.MaxInt), false},
		{of(1, math.MaxInt), 0, near(math.MinInt), false},
		{of(1, math.MaxInt), 0, []fill.Row{row(1, 1, 10001, 0)}, true},
		// Who plays, and where, and whether there is room, does not count.
		{of(0, 1500), 0, near(1500), true},
		{of(9, 1500), 0, near(1500), true},
		{queue.Ticket{Id: 0, Mode: -1, Players: []uint32{0, 7, 7}, Rating: 1500}, 0, sizes([]int{4, 4}, []int{9}), true},
	} {
		if got := fill.Fits(m, c.now, c.t, c.rows...); got != c.want || sits(m, c.now, c.t, c.rows...) != c.want {
			t.Errorf("%v beside %v at %d: %v", c.t, c.rows, c.now, got)
		}
	}
	none := plan.Mode{K: 1, Every: 1}
	if !fill.Fits(none, most, of(1, 7), near(7, 7)...) || fill.Fits(none, most, of(1, 7), near(7, 8)...) {
		t.Error("by a window of 0")
	}
}

// All edges of two ratings, two times and a window, in several modes.
func TestFitsAtTheEdges(t *testing.T) {
	for _, m := range []plan.Mode{growing(1), wide(4), {K: 2, Base: 0, Step: 1, Cap: 10000, Every: 1 << 40}, {K: 3, Base: 1, Step: 10000, Cap: 10000, Every: 10}} {
		for _, mine := range ratings {
			for _, its := range ratings {
				for _, window := range windows {
					for _, now := range times {
						for _, at := range times {
							x, r := since(at, of(1, mine)), row(1, 1, its, window)
							if got := fill.Fits(m, now, x, r); got != sits(m, now, x, r) {
								t.Fatalf("%v beside %v at %d in %v: %v", x, r, now, m, got)
							}
						}
					}
				}
			}
		}
	}
}

// Beside a row that has the window that its ticket has now a ticket may sit just if both fit (layer 18).
func TestFitsAsInADraft(t *testing.T) {
	r := rand.New(rand.NewSource(5))
	m, yes, no := growing(2), 0, 0
	for range 5000 {
		now := int64(r.Intn(60))
		a, b := since(int64(r.Intn(60)), of(1, 1500+r.Intn(400))), since(int64(r.Intn(60)), of(2, 1500+r.Intn(400)))
		beside := fill.Fits(m, now, a, row(1, 2, b.Rating, m.Window(draft.Wait(now, b.Since))))
		if beside != draft.Fits(m, now, a, b) {
			t.Fatalf("%v and %v at %d: %v", a, b, now, beside)
		}
		if beside {
			yes++
		} else {
			no++
		}
	}
	if yes < 500 || no < 500 {
		t.Errorf("%d fit, %d do not", yes, no)
	}
}

func TestTeam(t *testing.T) {
	for _, c := range []struct {
		k, players    int
		first, second []int
		want          int
	}{
		// Of both alike it is the team 1, else that with fewer players.
		{1, 1, nil, nil, 1},
		{2, 1, []int{1}, []int{1}, 1},
		{2, 1, []int{1}, nil, 2},
		{2, 1, nil, []int{1}, 1},
		{4, 1, []int{2, 1}, []int{1, 1}, 2},
		{4, 1, []int{1, 1}, []int{2, 1}, 1},
		{4, 1, []int{1, 1, 1}, []int{3}, 1},
		{4, 2, []int{2}, []int{1, 1}, 1},
		// Players count, not rows.
		{4, 1, []int{3}, []int{1, 1}, 2},
		{4, 1, []int{1, 1}, []int{3}, 1},
		// It is full at K, for so many players.
		{1, 1, []int{1}, nil, 2},
		{1, 1, nil, []int{1}, 1},
		{1, 1, []int{1}, []int{1}, 0},
		{2, 2, nil, nil, 1},
		{2, 2, []int{1}, nil, 2},
		{2, 2, nil, []int{1}, 1},
		{2, 2, []int{1}, []int{1}, 0},
		{2, 2, []int{1}, []int{2}, 0},
		{4, 4, []int{4}, nil, 2},
		{4, 4, []int{4}, []int{1}, 0},
		{4, 3, []int{4}, []int{1}, 2},
		{4, 3, []int{1}, []int{2}, 1},
		{4, 3, []int{2}, []int{2}, 0},
		{4, 4, nil, nil, 1},
		{4, 5, nil, nil, 0},
		{3, 4, nil, nil, 0},
		// Without players there is no team, whatever room there is.
		{4, 0, nil, nil, 0},
		{4, -1, nil, nil, 0},
		{4, math.MinInt, []int{1}, nil, 0},
		{4, math.MaxInt, []int{1}, nil, 0},
		{4, math.MaxInt, nil, []int{4, 4, 4}, 0},
		// A team may have more than it may have; the other one has room all the same.
		{2, 1, []int{3}, []int{1}, 2},
		{2, 1, []int{1}, []int{3}, 1},
		{2, 1, []int{3}, []int{4}, 0},
		{2, 1, []int{3}, []int{2}, 0},
		{2, 0, []int{3}, []int{2}, 0},
		{2, -1, []int{3}, []int{3}, 0},
	} {
		if got := fill.Team(growing(c.k), c.players, sizes(c.first, c.second)...); got != c.want {
			t.Errorf("K %d, %d beside %v %v: %d, not %d", c.k, c.players, c.first, c.second, got, c.want)
		}
	}
}

// All that two teams of two rows each may have, of all K, for all numbers.
func TestTeamOfAll(t *testing.T) {
	for k := 1; k <= 4; k++ {
		for way := range 6 * 6 * 6 * 6 {
			rows := sizes([]int{way % 6, way / 6 % 6}, []int{way / 36 % 6, way / 216})
			for _, many := range numbers {
				if got := fill.Team(growing(k), many, rows...); got != team(growing(k), many, rows...) {
					t.Fatalf("K %d, %d beside %v: %d", k, many, rows, got)
				}
			}
		}
	}
}

// Rows of a team that is none take nobody's room.
func TestTeamBesideRowsOfNone(t *testing.T) {
	rows := []fill.Row{row(0, 4, 0, 0), row(3, 4, 0, 0), row(-1, 4, 0, 0), row(2, 1, 0, 0)}
	if fill.Team(wide(4), 4, rows...) != 1 || fill.Team(wide(4), 4, rows[:3]...) != 1 {
		t.Error("there is no room")
	}
}

func TestWrongModes(t *testing.T) {
	l := []queue.Ticket{of(0, 1500), of(1, 1500), of(2, 1500)}
	for _, m := range wrongModes() {
		for _, rows := range [][]fill.Row{nil, near(1500), near(1500, 1500), sizes([]int{3}, []int{7})} {
			for _, x := range l {
				if fill.Fits(m, 0, x, rows...) {
					t.Errorf("%v fits in %v", x, m)
				}
			}
			for _, many := range numbers {
				if got := fill.Team(m, many, rows...); got != 0 {
					t.Errorf("%d in %v: %d", many, m, got)
				}
			}
			finds(t, m, 0, l, rows, found{})
		}
	}
	// They would be found, were the mode right.
	finds(t, wide(2), 0, l, near(1500), found{1, 2, true})
}

// P19.2

func TestFind(t *testing.T) {
	m := growing(2)
	rows := []fill.Row{row(1, 1, 1500, 100), row(2, 2, 1500, 50)}
	for _, c := range []struct {
		l    []queue.Ticket
		now  int64
		rows []fill.Row
		want found
	}{
		{nil, 0, rows, found{}},
		{[]queue.Ticket{}, 0, nil, found{}},
		// It has to fit, and to have room: one alone does not do.
		{[]queue.Ticket{of(1, 1550)}, 0, rows, found{0, 1, true}},
		{[]queue.Ticket{of(1, 1551)}, 0, rows, found{}},
		{[]queue.Ticket{of(2, 1500)}, 0, rows, found{}},
		{[]queue.Ticket{of(0, 1500)}, 0, rows, found{}},
		{[]queue.Ticket{of(2, 1500), of(1, 1551), of(1, 1550)}, 0, rows, found{2, 1, true}},
		{[]queue.Ticket{of(0, 1500), of(3, 1500), of(1, 1450), of(1, 1500)}, 0, rows, found{2, 1, true}},
		{[]queue.Ticket{of(2, 1500), of(1, 1551), of(0, 1500)}, 0, rows, found{}},
		// The first counts, not how well it goes, nor how long it has waited.
		{[]queue.Ticket{of(1, 1450), of(1, 1500)}, 0, rows, found{0, 1, true}},
		{[]queue.Ticket{since(9, of(1, 1500)), since(0, of(1, 1500))}, 9, rows, found{0, 1, true}},
		// Each is held by its own window.
		{[]queue.Ticket{since(1, of(1, 1650)), of(1, 1650)}, 10, near(1500), found{1, 2, true}},
		{[]queue.Ticket{since(1, of(1, 1650)), of(1, 1650)}, 11, near(1500), found{0, 2, true}},
		// The team is the first found one's.
		{[]queue.Ticket{of(2, 1500), of(1, 1500)}, 0, near(1500), found{0, 2, true}},
		{[]queue.Ticket{of(1, 1500)}, 0, nil, found{0, 1, true}},
		{[]queue.Ticket{of(2, 1500)}, 0, nil, found{0, 1, true}},
		{[]queue.Ticket{of(1, 1500)}, 0, sizes([]int{2}, []int{1}), found{0, 2, true}},
		{[]queue.Ticket{of(1, 1500)}, 0, sizes([]int{2}, []int{2}), found{}},
	} {
		finds(t, m, c.now, c.l, c.rows, c.want)
	}
}

// Unlike a match's, the list may be of any length.
func TestFindAmongMany(t *testing.T) {
	far := slices.Repeat([]queue.Ticket{of(1, 9000), of(3, 1500), of(0, 1500)}, 1000)
	finds(t, growing(2), 0, far, near(1500), found{})
	finds(t, growing(2), 0, append(far, of(1, 1600)), near(1500), found{3000, 2, true})
	finds(t, growing(2), 0, append(far, of(1, 1600)), slices.Repeat(near(1500, 1500), 500), found{})
}

// choices goes through lists of a length of which each item is one of some.
func choices[V any](many int, from ...V) func(yield func([]V) bool) {
	return func(yield func([]V) bool) {
		all := 1
		for range many {
			all *= len(from)
		}
		for n := range all {
			l := make([]V, many)
			for i := range l {
				l[i] = from[n%len(from)]
				n /= len(from)
			}
			if !yield(l) {
				return
			}
		}
	}
}

// All lists of up to two tickets, beside up to two rows, of some kinds.
func TestAllShortLists(t *testing.T) {
	for k := 1; k <= 4; k++ {
		m := plan.Mode{K: k, Base: 10, Step: 10, Cap: 30, Every: 5}
		for many := range 3 {
			for l := range choices(many, of(0, 7), of(1, 0), of(2, 5), since(5, of(1, 25)), since(5, of(3, 5))) {
				for beside := range 3 {
					for rows := range choices(beside, row(1, 1, 5, 10), row(2, 1, 5, 10), row(1, 2, 0, 30), row(2, 3, 20, 5), row(3, 1, 5, 10)) {
						finds(t, m, 9, l, rows, first(m, 9, l, rows...))
					}
				}
			}
		}
	}
}

func TestAsTheModelIs(t *testing.T) {
	r := rand.New(rand.NewSource(1))
	var seen [3]int
	for range 20000 {
		m := plan.Mode{K: 1 + r.Intn(4), Base: r.Intn(200), Step: r.Intn(100), Every: int64(1 + r.Intn(20))}
		m.Cap = m.Base + r.Intn(300)
		now := int64(r.Intn(100))
		rows := make([]fill.Row, r.Intn(5))
		for i := range rows {
			rows[i] = row(1+r.Intn(2), 1+r.Intn(m.K), 1500+r.Intn(200), r.Intn(400))
			if r.Intn(60) == 0 {
				rows[i] = row(numbers[r.Intn(len(numbers))], r.Intn(6), ratings[r.Intn(len(ratings))], windows[r.Intn(len(windows))])
			}
		}
		l := make([]queue.Ticket, r.Intn(8))
		for i := range l {
			l[i] = since(now-int64(r.Intn(100)), of(1+r.Intn(m.K), 1500+r.Intn(300)))
			if r.Intn(60) == 0 {
				l[i] = since(times[r.Intn(len(times))], of(r.Intn(6), ratings[r.Intn(len(ratings))]))
			}
			if got := fill.Fits(m, now, l[i], rows...); got != sits(m, now, l[i], rows...) {
				t.Fatalf("%v beside %v at %d in %v: %v", l[i], rows, now, m, got)
			}
		}
		want := first(m, now, l, rows...)
		finds(t, m, now, l, rows, want)
		seen[want.team]++
	}
	if slices.Min(seen[:]) < 1000 {
		t.Errorf("none, the team 1 and the team 2: %v", seen)
	}
}

// P19.3

// legal fails unless no team has more than K players, and all fit by the windows that they had when they sat down.
func legal(t *testing.T, m plan.Mode, rows ...fill.Row) {
	t.Helper()
	if first, second := fill.Taken(rows...); first > m.K || second > m.K {
		t.Fatalf("%v in %v: %d %d", rows, m, first, second)
	}
	for i, a := range rows {
		for _, b := range rows[:i] {
			if d := a.Rating - b.Rating; max(d, -d) > min(a.Window, b.Window) {
				t.Fatalf("%v do not fit", rows)
			}
		}
	}
}

// seat is a ticket of the queue as a row, with the window that it has now.
func seat(m plan.Mode, now int64, team int, t queue.Ticket) fill.Row {
	return fill.Row{Team: team, Players: t.Players, Rating: t.Rating, Window: m.Window(draft.Wait(now, t.Since))}
}

// begun are the rows of a list's first match, and what is left of the list.
func begun(m plan.Mode, now int64, l []queue.Ticket) ([]fill.Row, []queue.Ticket) {
	s, _ := draft.Find(m, now, l)
	var rows []fill.Row
	for _, p := range s.A {
		rows = append(rows, seat(m, now, 1, l[p]))
	}
	for _, p := range s.B {
		rows = append(rows, seat(m, now, 2, l[p]))
	}
	var left []queue.Ticket
	for p, t := range l {
		if !slices.Contains(s.A, p) && !slices.Contains(s.B, p) {
			left = append(left, t)
		}
	}
	return rows, left
}

// A match that begins, loses some, and is filled from the queue as time goes on: it stays as it must be, and nobody who might sit waits.
func TestMatchesStayLegal(t *testing.T) {
	r := rand.New(rand.NewSource(3))
	filled, full := 0, 0
	for range 1500 {
		m := growing(1 + r.Intn(4))
		now := int64(r.Intn(30))
		l := make([]queue.Ticket, 16)
		for i := range l {
			l[i] = since(int64(r.Intn(30)), of(1+r.Intn(m.K), 1500+r.Intn(250)))
		}
		rows, left := begun(m, now, l)
		for range 4 {
			rows = slices.DeleteFunc(rows, func(fill.Row) bool { return r.Intn(3) == 0 })
			now += int64(r.Intn(10))
			for {
				place, team, is := fill.Find(m, now, left, rows...)
				if !is {
					break
				}
				rows, left = append(rows, seat(m, now, team, left[place])), slices.Delete(left, place, place+1)
				legal(t, m, rows...)
				filled++
			}
			for _, x := range left {
				if fill.Fits(m, now, x, rows...) && fill.Team(m, len(x.Players), rows...) != 0 {
					t.Fatalf("%v waits beside %v", x, rows)
				}
			}
			if first, second := fill.Taken(rows...); first == m.K && second == m.K {
				full++
			}
		}
	}
	if filled < 2000 || full < 500 {
		t.Errorf("%d sat down, %d matches were full", filled, full)
	}
}

// The rules R4 and R6

// What is handed in is not changed, and what is asked twice is answered alike.
func TestWhatIsHandedInIsNotChanged(t *testing.T) {
	tickets := func() []queue.Ticket {
		return []queue.Ticket{
			{Id: 4, Mode: 2, Players: []uint32{7, 8}, Rating: -5, Since: 9},
			{Id: 3, Mode: 1, Players: []uint32{9}, Rating: 12000, Since: 20},
			{Id: 9, Players: []uint32{1}, Rating: 70, Since: 3},
		}
	}
	taken := func() []fill.Row {
		return []fill.Row{
			{Team: 2, Players: []uint32{5, 4}, Rating: 12000, Window: 20000},
			{Team: 1, Players: []uint32{6}, Rating: -5, Window: 9950},
		}
	}
	l, rows := tickets(), taken()
	for range 2 {
		for _, m := range []plan.Mode{wide(2), growing(2)} {
			fill.Taken(rows...)
			fill.Team(m, 1, rows...)
			fill.Fits(m, 10, l[0], rows...)
			finds(t, m, 10, l, rows, first(m, 10, l, rows...))
		}
	}
	for i, want := range tickets() {
		if x := l[i]; x.Id != want.Id || x.Mode != want.Mode || !slices.Equal(x.Players, want.Players) || x.Rating != want.Rating || x.Since != want.Since {
			t.Errorf("%v, not %v", x, want)
		}
	}
	for i, want := range taken() {
		if x := rows[i]; x.Team != want.Team || !slices.Equal(x.Players, want.Players) || x.Rating != want.Rating || x.Window != want.Window {
			t.Errorf("%v, not %v", x, want)
		}
	}
}
