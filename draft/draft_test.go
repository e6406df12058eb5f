package draft_test

import (
	"math"
	"math/big"
	"math/rand"
	"slices"
	"testing"

	"tiltyard/draft"
	"tiltyard/plan"
	"tiltyard/queue"
)

const (
	least = math.MinInt64
	most  = math.MaxInt64
)

// times are those at the edges of their type, and some between.
var times = []int64{least, least + 1, -1 << 62, -1<<62 - 1, -1 << 40, -10, -1, 0, 1, 9, 10, 1 << 40, 1 << 62, 1<<62 + 1, most - 1, most}

// wide is a mode in which all fit.
func wide(k int) plan.Mode { return plan.Mode{K: k, Base: 10000, Cap: 10000, Every: 1} }

// growing is a mode whose window is 100 at first, and 50 more for each 10 ticks, but at most 300.
func growing(k int) plan.Mode { return plan.Mode{K: k, Base: 100, Step: 50, Cap: 300, Every: 10} }

// wrongModes are modes each of which is not right by one thing alone.
func wrongModes() []plan.Mode {
	var l []plan.Mode
	for _, does := range []func(m *plan.Mode){
		func(m *plan.Mode) { m.K = 0 }, func(m *plan.Mode) { m.K = -1 }, func(m *plan.Mode) { m.K = 5 }, func(m *plan.Mode) { m.K = math.MaxInt }, func(m *plan.Mode) { m.K = math.MinInt },
		func(m *plan.Mode) { m.Base = -1 }, func(m *plan.Mode) { m.Base = 10001 }, func(m *plan.Mode) { m.Cap = 9999 }, func(m *plan.Mode) { m.Cap = 10001 },
		func(m *plan.Mode) { m.Step = -1 }, func(m *plan.Mode) { m.Step = 10001 },
		func(m *plan.Mode) { m.Every = 0 }, func(m *plan.Mode) { m.Every = -1 }, func(m *plan.Mode) { m.Every = 1<<40 + 1 },
	} {
		m := wide(1)
		does(&m)
		l = append(l, m)
	}
	return append(l, plan.Mode{})
}

// of is a ticket of so many players, since 0.
func of(many, rating int) queue.Ticket {
	return queue.Ticket{Players: make([]uint32, many), Rating: rating}
}

// since is a ticket that waits since another time.
func since(at int64, t queue.Ticket) queue.Ticket {
	t.Since = at
	return t
}

// ones are tickets of one player each, of these ratings.
func ones(ratings ...int) []queue.Ticket {
	var l []queue.Ticket
	for _, r := range ratings {
		l = append(l, of(1, r))
	}
	return l
}

// sizes are tickets of so many players each, of one rating.
func sizes(many ...int) []queue.Ticket {
	var l []queue.Ticket
	for _, n := range many {
		l = append(l, of(n, 1500))
	}
	return l
}

// split is one of these teams.
func split(a, b []int) draft.Split { return draft.Split{A: a, B: b} }

// same tells whether two splits are the same.
func same(s, t draft.Split) bool { return slices.Equal(s.A, t.A) && slices.Equal(s.B, t.B) }

// teams fails unless tickets make just these teams.
func teams(t *testing.T, k int, l []queue.Ticket, a, b []int) {
	t.Helper()
	if s, is := draft.Teams(wide(k), l...); !is || !same(s, split(a, b)) {
		t.Errorf("%v: %v %v, not %v %v", l, s, is, a, b)
	}
}

// noTeams fails unless tickets make no teams, and nothing is answered.
func noTeams(t *testing.T, m plan.Mode, l ...queue.Ticket) {
	t.Helper()
	if s, is := draft.Teams(m, l...); is || s.A != nil || s.B != nil {
		t.Errorf("%v of %v: %v %v", m, l, s, is)
	}
}

// finds fails unless tickets have just this match.
func finds(t *testing.T, m plan.Mode, now int64, l []queue.Ticket, a, b []int) {
	t.Helper()
	if s, is := draft.Find(m, now, l); !is || !same(s, split(a, b)) {
		t.Errorf("%v: %v %v, not %v %v", l, s, is, a, b)
	}
}

// findsNone fails unless tickets have no match, and nothing is answered.
func findsNone(t *testing.T, m plan.Mode, now int64, l ...queue.Ticket) {
	t.Helper()
	if s, is := draft.Find(m, now, l); is || s.A != nil || s.B != nil {
		t.Errorf("%v of %v: %v %v", m, l, s, is)
	}
}

// What the chapter says, said as plainly as may be.

// wait is how long a ticket has waited.
func wait(now, since int64) int64 {
	d := new(big.Int).Sub(big.NewInt(now), big.NewInt(since))
	switch {
	case d.Sign() < 0:
		return 0
	case !d.IsInt64():
		return most
	}
	return d.Int64()
}

// rating is what counts as a ticket's.
func rating(x queue.Ticket) int {
	switch {
	case x.Rating < 0:
		return 0
	case x.Rating > 10000:
		return 10000
	}
	return x.Rating
}

// window is a ticket's.
func window(m plan.Mode, now int64, x queue.Ticket) int { return m.Window(wait(now, x.Since)) }

// fit: do they fit?
func fit(m plan.Mode, now int64, l ...queue.Ticket) bool {
	for i := range l {
		for j := range l {
			d := rating(l[i]) - rating(l[j])
			if i != j && (d > window(m, now, l[i]) || d > window(m, now, l[j])) {
				return false
			}
		}
	}
	return m.Wrong() == ""
}

// players are how many some places have.
func players(l []queue.Ticket, places []int) int {
	all := 0
	for _, p := range places {
		all += len(l[p].Players)
	}
	return all
}

// gap is how far the weights of two teams are apart.
func gap(l []queue.Ticket, s draft.Split) int {
	d := 0
	for _, p := range s.A {
		d += rating(l[p]) * len(l[p].Players)
	}
	for _, p := range s.B {
		d -= rating(l[p]) * len(l[p].Players)
	}
	return max(d, -d)
}

// subsets are all lists of rising numbers below one, in their order.
func subsets(many int) [][]int {
	var l [][]int
	for set := range 1 << many {
		var places []int
		for p := range many {
			if set>>p&1 == 1 {
				places = append(places, p)
			}
		}
		l = append(l, places)
	}
	slices.SortFunc(l, slices.Compare[[]int])
	return l
}

// without are the places of a list that are not in another one.
func without(all, some []int) []int {
	var l []int
	for _, p := range all {
		if !slices.Contains(some, p) {
			l = append(l, p)
		}
	}
	return l
}

// best is how some places of a list are parted.
func best(k int, l []queue.Ticket, places []int) (draft.Split, bool) {
	var found draft.Split
	is := false
	for _, p := range places {
		if n := len(l[p].Players); n < 1 || n > k {
			return found, false
		}
	}
	for _, some := range subsets(len(places)) {
		var a []int
		for _, i := range some {
			a = append(a, places[i])
		}
		s := split(a, without(places, a))
		if len(a) > 0 && a[0] == places[0] && players(l, s.A) == k && players(l, s.B) == k && (!is || gap(l, s) < gap(l, found)) {
			found, is = s, true
		}
	}
	return found, is
}

// first is the first match of a list.
func first(m plan.Mode, now int64, l []queue.Ticket) (draft.Split, bool) {
	for _, places := range subsets(len(l)) {
		if len(places) == 0 || players(l, places) != 2*m.K {
			continue
		}
		var some []queue.Ticket
		for _, p := range places {
			some = append(some, l[p])
		}
		if s, is := best(m.K, l, places); is && fit(m, now, some...) {
			return s, true
		}
	}
	return draft.Split{}, false
}

// P18.1

func TestWait(t *testing.T) {
	for _, c := range []struct{ now, since, want int64 }{
		{9, 5, 4}, {5, 9, 0}, {5, 5, 0}, {0, -7, 7}, {-7, 0, 0}, {-3, -7, 4}, {most, 0, most}, {most, -1, most}, {most - 1, -1, most}, {most - 2, -1, most - 1},
		{most, least, most}, {least, most, 0}, {least, least, 0}, {0, least, most}, {-1, least, most}, {-2, least, most - 1}, {1 << 62, -1 << 62, most}, {1<<62 - 1, -1 << 62, most},
	} {
		if got := draft.Wait(c.now, c.since); got != c.want {
			t.Errorf("%d at %d: %d, not %d", c.since, c.now, got, c.want)
		}
	}
	for _, now := range times {
		for _, at := range times {
			if got := draft.Wait(now, at); got != wait(now, at) {
				t.Errorf("%d at %d: %d, not %d", at, now, got, wait(now, at))
			}
		}
	}
}

func TestFits(t *testing.T) {
	m := growing(2)
	for _, c := range []struct {
		l    []queue.Ticket
		now  int64
		want bool
	}{
		{ones(1500, 1600), 0, true},
		{ones(1500, 1601), 0, false},
		{ones(1601, 1500), 0, false},
		{ones(1600, 1500), 0, true},
		{ones(1500, 1601), 9, false},
		{ones(1500, 1601), 10, true},
		{ones(1500, 1650), 10, true},
		{ones(1500, 1651), 10, false},
		{ones(1500, 1800), 1000, true},
		{ones(1500, 1801), 1000, false},
		// Of the windows the lesser one counts, whose ever it is.
		{[]queue.Ticket{of(1, 1500), since(10, of(1, 1601))}, 10, false},
		{[]queue.Ticket{since(10, of(1, 1500)), of(1, 1601)}, 10, false},
		{[]queue.Ticket{since(1, of(1, 1500)), since(1, of(1, 1601))}, 11, true},
		{[]queue.Ticket{since(1, of(1, 1500)), since(2, of(1, 1601))}, 11, false},
		// All of them have to, not only those that are neighbours.
		{ones(1500, 1600, 1700), 0, false},
		{ones(1500, 1600, 1400), 0, false},
		{ones(1500, 1600, 1550, 1500, 1520, 1601), 0, false},
		{ones(1500, 1600, 1550, 1500, 1520, 1600), 0, true},
		{ones(1700, 1500, 1500, 1500), 0, false},
		{[]queue.Ticket{of(1, 1500), of(1, 1600), since(20, of(1, 1650))}, 20, false},
		{[]queue.Ticket{of(1, 1500), of(1, 1600), since(10, of(1, 1650))}, 20, true},
		// One alone, and none, do.
		{ones(1500), 0, true},
		{ones(math.MaxInt), 0, true},
		{nil, 0, true},
		{[]queue.Ticket{}, 0, true},
		// A time that is behind now has not come yet; far ones are as far as may be.
		{[]queue.Ticket{since(most, of(1, 1500)), since(most, of(1, 1601))}, least, false},
		{[]queue.Ticket{since(most, of(1, 1500)), since(most, of(1, 1600))}, least, true},
		{[]queue.Ticket{since(least, of(1, 1500)), since(least, of(1, 1800))}, most, true},
		{[]queue.Ticket{since(least, of(1, 1500)), since(least, of(1, 1801))}, most, false},
		// Ratings count as the nearest that may be.
		{ones(0, -7), 0, true},
		{ones(100, math.MinInt), 0, true},
		{ones(101, math.MinInt), 0, false},
		{ones(9900, math.MaxInt), 0, true},
		{ones(9899, 10001), 0, false},
		{ones(math.MinInt, math.MaxInt), 0, false},
		// Who plays, and where, does not count.
		{[]queue.Ticket{of(0, 1500), of(9, 1600), {Mode: -1, Rating: 1550}}, 0, true},
	} {
		if got := draft.Fits(m, c.now, c.l...); got != c.want {
			t.Errorf("%v at %d: %v", c.l, c.now, got)
		}
	}
	if !draft.Fits(wide(1), 0, ones(0, 10000, math.MaxInt, math.MinInt)...) {
		t.Error("not all fit")
	}
	none := plan.Mode{K: 1, Every: 1}
	if !draft.Fits(none, most, ones(7, 7, 7)...) || draft.Fits(none, most, ones(7, 7, 8)...) {
		t.Error("by a window of 0")
	}
}

func TestManyFit(t *testing.T) {
	l := slices.Repeat(ones(1500, 1600), 500)
	if !draft.Fits(growing(1), 0, l...) {
		t.Error("a thousand do not")
	}
	for _, place := range []int{0, 1, 500, 999} {
		m := slices.Clone(l)
		m[place].Rating = 1700
		if draft.Fits(growing(1), 0, m...) {
			t.Errorf("they do, but for the one at %d", place)
		}
	}
}

func TestWrongModes(t *testing.T) {
	for _, m := range wrongModes() {
		for _, l := range [][]queue.Ticket{nil, ones(1500), ones(1500, 1500), ones(1500, 1500, 1500, 1500), sizes(5, 5)} {
			if draft.Fits(m, 0, l...) {
				t.Errorf("%v fit in %v", l, m)
			}
			noTeams(t, m, l...)
			findsNone(t, m, 0, l...)
		}
	}
}

// P18.2

func TestTheExample(t *testing.T) {
	m := plan.Mode{K: 1, Base: 100, Cap: 100, Every: 1}
	finds(t, m, 0, ones(1500, 1700, 1550), []int{0}, []int{2})
}

func TestTeams(t *testing.T) {
	teams(t, 1, ones(1, 9999), []int{0}, []int{1})
	teams(t, 2, sizes(2, 2), []int{0}, []int{1})
	teams(t, 2, sizes(1, 2, 1), []int{0, 2}, []int{1})
	teams(t, 2, sizes(2, 1, 1), []int{0}, []int{1, 2})
	teams(t, 3, sizes(1, 3, 2), []int{0, 2}, []int{1})
	teams(t, 3, sizes(2, 2, 1, 1), []int{0, 2}, []int{1, 3})
	teams(t, 4, sizes(4, 4), []int{0}, []int{1})
	teams(t, 4, sizes(3, 3, 1, 1), []int{0, 2}, []int{1, 3})
	teams(t, 4, sizes(1, 1, 1, 1, 1, 1, 1, 1), []int{0, 1, 2, 3}, []int{4, 5, 6, 7})
	teams(t, 4, sizes(1, 2, 1, 1, 2, 1), []int{0, 1, 2}, []int{3, 4, 5})
}

// Of all ways to part them it is the one whose teams' weights are the least apart.
func TestBalance(t *testing.T) {
	teams(t, 2, ones(1500, 1600, 1400, 1500), []int{0, 3}, []int{1, 2})
	teams(t, 2, ones(0, 10, 20, 30), []int{0, 3}, []int{1, 2})
	teams(t, 2, ones(30, 0, 20, 10), []int{0, 1}, []int{2, 3})
	teams(t, 2, ones(1000, 0, 0, 0), []int{0, 1}, []int{2, 3})
	teams(t, 2, ones(0, 1, 1000, 999), []int{0, 2}, []int{1, 3})
	teams(t, 3, ones(100, 90, 80, 3, 2, 1), []int{0, 3, 4}, []int{1, 2, 5})
	// Each player of a ticket counts.
	teams(t, 3, []queue.Ticket{of(2, 100), of(2, 200), of(1, 300), of(1, 100)}, []int{0, 2}, []int{1, 3})
	teams(t, 3, []queue.Ticket{of(2, 200), of(2, 100), of(1, 300), of(1, 100)}, []int{0, 3}, []int{1, 2})
	// Ratings count as the nearest that may be.
	teams(t, 2, ones(math.MaxInt, 10000, 0, math.MinInt), []int{0, 2}, []int{1, 3})
	teams(t, 2, ones(20000, 9000, 1000, 500), []int{0, 3}, []int{1, 2})
	teams(t, 2, ones(-9000, 100, 200, 50), []int{0, 2}, []int{1, 3})
}

// Of ways as good as one another it is the one whose team A stands first.
func TestTies(t *testing.T) {
	teams(t, 2, ones(7, 7, 7, 7), []int{0, 1}, []int{2, 3})
	teams(t, 2, ones(10, 0, 0, 10), []int{0, 1}, []int{2, 3})
	teams(t, 2, ones(10, 10, 0, 0), []int{0, 2}, []int{1, 3})
	teams(t, 3, ones(10, 10, 0, 0, 0, 0), []int{0, 2, 3}, []int{1, 4, 5})
	teams(t, 4, sizes(2, 1, 1, 2, 1, 1), []int{0, 1, 2}, []int{3, 4, 5})
	teams(t, 4, sizes(1, 3, 1, 3), []int{0, 1}, []int{2, 3})
	teams(t, 4, sizes(1, 1, 2, 2, 2), []int{0, 1, 2}, []int{3, 4})
	// A longer team may stand ahead of a shorter one, and the other way round.
	teams(t, 3, sizes(1, 1, 2, 1, 1), []int{0, 1, 3}, []int{2, 4})
	teams(t, 3, sizes(1, 2, 1, 1, 1), []int{0, 1}, []int{2, 3, 4})
}

func TestWhatMakesNoTeams(t *testing.T) {
	for k := 1; k <= 4; k++ {
		for _, l := range [][]queue.Ticket{nil, sizes(k), sizes(k, k, k), sizes(2 * k), sizes(k, k, 0), sizes(0, k, k), sizes(k, 0, k), sizes(0, 0), sizes(k+1, k-1), sizes(k-1, k+1), sizes(0), sizes(k, k+1), slices.Repeat(sizes(1), 2*k+1), slices.Repeat(sizes(1), 2*k-1)} {
			noTeams(t, wide(k), l...)
		}
	}
	noTeams(t, wide(4), sizes(3, 3, 2)...)
	noTeams(t, wide(4), sizes(2, 3, 3)...)
	noTeams(t, wide(4), sizes(1, 1, 1, 1, 1, 1, 1, 1, 0)...)
	noTeams(t, wide(4), sizes(1, 1, 1, 1, 1, 1, 1, 1, 1)...)
	noTeams(t, wide(3), sizes(2, 2, 2)...)
	noTeams(t, wide(1), sizes(300, 300)...)
	noTeams(t, wide(4), slices.Repeat(sizes(1), 40)...)
	noTeams(t, wide(4), slices.Repeat(sizes(1), 1000)...)
	noTeams(t, wide(4), slices.Repeat(sizes(0), 64)...)
}

// Teams does not ask whether they fit.
func TestTeamsOfWhatDoesNotFit(t *testing.T) {
	m := plan.Mode{K: 1, Every: 1}
	l := []queue.Ticket{since(most, of(1, 0)), since(least, of(1, 10000))}
	if s, is := draft.Teams(m, l...); !is || !same(s, split([]int{0}, []int{1})) {
		t.Errorf("%v %v", s, is)
	}
	findsNone(t, m, 0, l...)
}

// choices goes through lists of a length of which each item is one of some.
func choices(many int, from []queue.Ticket) func(yield func([]queue.Ticket) bool) {
	return func(yield func([]queue.Ticket) bool) {
		all := 1
		for range many {
			all *= len(from)
		}
		for n := range all {
			l := make([]queue.Ticket, many)
			for i := range l {
				l[i] = from[n%len(from)]
				n /= len(from)
			}
			if !yield(l) {
				return
			}
		}
	}
}

// alike fails unless Teams and Find answer what the chapter says.
func alike(t *testing.T, m plan.Mode, now int64, l []queue.Ticket) {
	t.Helper()
	var all []int
	for p := range l {
		all = append(all, p)
	}
	if len(l) > 0 && len(l) < 10 {
		want, is := best(m.K, l, all)
		if got, was := draft.Teams(m, l...); was != is || !same(got, want) {
			t.Fatalf("the teams of %v in %v: %v %v, not %v %v", l, m, got, was, want, is)
		}
	}
	want, is := first(m, now, l)
	if got, was := draft.Find(m, now, l); was != is || !same(got, want) {
		t.Fatalf("the match of %v in %v at %d: %v %v, not %v %v", l, m, now, got, was, want, is)
	}
	if got := draft.Fits(m, now, l...); got != fit(m, now, l...) {
		t.Fatalf("%v fit in %v at %d: %v", l, m, now, got)
	}
}

// All lists of a few tickets of a few kinds.
func TestAllShortLists(t *testing.T) {
	for k := 1; k <= 4; k++ {
		m := plan.Mode{K: k, Base: 10, Step: 10, Cap: 30, Every: 5}
		for many := range 5 {
			for l := range choices(many, []queue.Ticket{of(0, 7), of(1, 0), of(1, 11), of(2, 5), of(2, 25), since(5, of(3, 5))}) {
				alike(t, m, 9, l)
			}
		}
		for l := range choices(6, []queue.Ticket{of(1, 0), of(1, 11), of(2, 5)}) {
			alike(t, m, 9, l)
		}
	}
}

func TestAsTheModelIs(t *testing.T) {
	r := rand.New(rand.NewSource(1))
	found, none := 0, 0
	for range 3000 {
		m := plan.Mode{K: 1 + r.Intn(4), Base: r.Intn(200), Step: r.Intn(100), Every: int64(1 + r.Intn(20))}
		m.Cap = m.Base + r.Intn(300)
		now := int64(r.Intn(100))
		l := make([]queue.Ticket, r.Intn(10))
		if r.Intn(100) == 0 {
			l = make([]queue.Ticket, 10+r.Intn(3))
		}
		for i := range l {
			l[i] = queue.Ticket{Players: make([]uint32, 1+r.Intn(m.K)), Rating: 1500 + r.Intn(400), Since: now - int64(r.Intn(100))}
			switch r.Intn(60) {
			case 0:
				l[i].Players = make([]uint32, r.Intn(7))
			case 1:
				l[i].Since = times[r.Intn(len(times))]
			case 2:
				l[i].Rating = []int{-1, 0, 10000, 10001, math.MaxInt, math.MinInt}[r.Intn(6)]
			}
		}
		alike(t, m, now, l)
		if _, is := draft.Find(m, now, l); is {
			found++
		} else {
			none++
		}
	}
	if found < 200 || none < 200 {
		t.Errorf("%d have a match, %d do not", found, none)
	}
}

func TestTheFirstMatch(t *testing.T) {
	m := growing(1)
	finds(t, m, 0, ones(1500, 1601, 1600), []int{0}, []int{2})
	finds(t, m, 0, ones(1500, 1700, 1800), []int{1}, []int{2})
	finds(t, m, 0, ones(1000, 2000, 3000, 2101, 3100, 1100, 900), []int{0}, []int{5})
	findsNone(t, m, 0, ones(1500, 1601, 1702, 1803, 1399)...)
	finds(t, m, 10, ones(1500, 1601, 1702, 1803, 1399), []int{0}, []int{1})
	// The first places count, not how well they go together.
	finds(t, m, 0, ones(1500, 1600, 1500), []int{0}, []int{1})
	finds(t, growing(2), 0, ones(1500, 1700, 1600, 1550, 1500, 1500), []int{0, 2}, []int{3, 4})
	finds(t, growing(2), 0, []queue.Ticket{of(2, 1500), of(1, 1500), of(2, 1500), of(1, 1500)}, []int{0}, []int{1, 3})
	finds(t, growing(4), 0, sizes(3, 3, 2, 1, 1), []int{0, 3}, []int{1, 4})
	finds(t, growing(4), 0, sizes(3, 3, 2, 4, 4), []int{3}, []int{4})
	// What is too great for a team, or has no players, is left out.
	finds(t, growing(2), 0, sizes(3, 0, 1, 4, 2, 0, 1), []int{2, 6}, []int{4})
	findsNone(t, growing(2), 0, sizes(3, 1)...)
	findsNone(t, growing(1), 0)
}

func TestAtMostSixteen(t *testing.T) {
	far := make([]int, 14)
	for i := range far {
		far[i] = i * 700
	}
	l := ones(append(far, 9900, 9950)...)
	finds(t, growing(1), 0, l, []int{14}, []int{15})
	findsNone(t, growing(1), 0, append(slices.Clone(l), of(1, 9950))...)
	findsNone(t, growing(1), 0, slices.Repeat(ones(1500), 17)...)
	findsNone(t, growing(1), 0, slices.Repeat(ones(1500), 1000)...)
	finds(t, wide(4), 0, slices.Repeat(ones(1500), 16), []int{0, 1, 2, 3}, []int{4, 5, 6, 7})
}

// However the ratings lie, and however nearly there is a match, it is not long in coming.
func TestFindIsNotLong(t *testing.T) {
	// Any seven that stand together fit, and no eight do.
	var steps []int
	for i := range 16 {
		steps = append(steps, i*10)
	}
	// Two heaps of seven, which are far apart.
	heaps := slices.Concat(slices.Repeat(ones(0), 7), slices.Repeat(ones(500), 7))
	for range 300 {
		findsNone(t, plan.Mode{K: 4, Base: 65, Cap: 65, Every: 1}, 0, ones(steps...)...)
		findsNone(t, growing(4), 0, heaps...)
		findsNone(t, wide(4), 0, sizes(3, 3, 3, 3, 3, 3, 3, 3, 2, 3, 3, 3, 3, 3, 3, 3)...)
		findsNone(t, wide(4), 0, slices.Repeat(sizes(0), 16)...)
	}
}

// P18.3

// If some tickets of l fit and make two teams there is a match; the first is in it, if it is in some such tickets.
func TestTheFirstIsInIt(t *testing.T) {
	r := rand.New(rand.NewSource(2))
	with, not := 0, 0
	for range 2000 {
		m := plan.Mode{K: 1 + r.Intn(3), Base: 100, Step: 10, Cap: 200, Every: 10}
		l := make([]queue.Ticket, 1+r.Intn(8))
		for i := range l {
			l[i] = since(-int64(r.Intn(100)), of(1+r.Intn(m.K), 1500+r.Intn(300)))
		}
		might, does := false, false
		for _, places := range subsets(len(l)) {
			var some []queue.Ticket
			for _, p := range places {
				some = append(some, l[p])
			}
			if _, is := draft.Teams(m, some...); is && draft.Fits(m, 0, some...) {
				might, does = true, does || places[0] == 0
			}
		}
		s, is := draft.Find(m, 0, l)
		if is != might || is && (s.A[0] == 0) != does {
			t.Fatalf("%v in %v: %v %v, the first one is in one: %v", l, m, s, is, does)
		}
		if does {
			with++
		} else {
			not++
		}
	}
	if with < 200 || not < 200 {
		t.Errorf("with %d, without %d", with, not)
	}
}

// The rules R4 and R6

// tickets are some of whom a match is made.
func tickets() []queue.Ticket {
	return []queue.Ticket{
		{Id: 4, Mode: 2, Players: []uint32{7, 8}, Rating: -5, Since: 9},
		{Id: 3, Mode: 1, Players: []uint32{9}, Rating: 12000, Since: 20},
		{Id: 9, Players: []uint32{1}, Rating: 70, Since: 3},
	}
}

func TestWhatIsHandedInIsNotChanged(t *testing.T) {
	l := tickets()
	for range 2 {
		for _, m := range []plan.Mode{wide(2), growing(2)} {
			draft.Fits(m, 10, l...)
			draft.Teams(m, l...)
			draft.Find(m, 10, l)
		}
	}
	for i, want := range tickets() {
		if x := l[i]; x.Id != want.Id || x.Mode != want.Mode || !slices.Equal(x.Players, want.Players) || x.Rating != want.Rating || x.Since != want.Since {
			t.Errorf("%v, not %v", x, want)
		}
	}
}

// spoil writes into all of a list, and into the room behind it.
func spoil(l []int) {
	l = l[:cap(l)]
	for i := range l {
		l[i] = -99
	}
}

func TestAnswersAreTheirOwn(t *testing.T) {
	for _, ask := range []func() (draft.Split, bool){
		func() (draft.Split, bool) { return draft.Teams(wide(2), tickets()...) },
		func() (draft.Split, bool) { return draft.Find(wide(2), 10, tickets()) },
		func() (draft.Split, bool) { return draft.Find(wide(4), 10, slices.Repeat(ones(7), 16)) },
	} {
		s, _ := ask()
		again, is := ask()
		want := split(slices.Clone(s.A), slices.Clone(s.B))
		spoil(s.A)
		if !slices.Equal(s.B, want.B) {
			t.Errorf("the teams share: %v", s)
		}
		spoil(s.B)
		if !is || !same(again, want) {
			t.Errorf("%v, not %v", again, want)
		}
	}
}
