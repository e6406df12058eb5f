package verdict_test

import (
	"maps"
	"math"
	"math/rand"
	"slices"
	"testing"

	"tiltyard/api"
	"tiltyard/elo"
	"tiltyard/fill"
	"tiltyard/rack"
	"tiltyard/seat"
	"tiltyard/verdict"
)

const last = 1<<31 - 1

// The calls are just these.
var (
	_ func(*rack.Rack[int], seat.Match, int) (verdict.Verdict, api.Errno)                              = verdict.Judge
	_ func(*rack.Rack[int], verdict.Verdict) api.Errno                                                 = verdict.Apply
	_ func(*rack.Rack[int], *seat.Table, uint32, uint32, int) (verdict.Verdict, seat.Match, api.Errno) = verdict.Report
	_                                                                                                  = verdict.Verdict{Match: 1, Instance: 2, Result: 1, Players: []uint32{3}, Old: []int{4}, New: []int{5}}
)

// results are all there are, none are numbers that are no result, states are all of a seat's, odd are numbers that are no such state.
var (
	results = []int{0, 1, 2}
	none    = []int{math.MinInt, math.MinInt + 1, -1 << 31, -256, -2, -1, 3, 4, 255, 256, 257, 258, 1 << 30, 1<<31 - 1, math.MaxInt - 1, math.MaxInt}
	states  = []int{seat.Waiting, seat.In, seat.Away}
	odd     = []int{math.MinInt, -3, -2, -1, 0, 4, 5, 258, 259, math.MaxInt}
)

// wrong are numbers that are no ids, unrated are some that are no ratings.
var (
	wrong   = []uint32{0, 1 << 31, 1<<31 + 1, math.MaxUint32 - 1, math.MaxUint32}
	unrated = []int{math.MinInt, -10001, -1, 10001, 20000, math.MaxInt}
)

// book is a book of these ratings, of the players 1, 2 and so on, without room for more.
func book(ratings ...int) *rack.Rack[int] {
	b := rack.New[int](len(ratings))
	for i, r := range ratings {
		b.Put(uint32(i+1), r)
	}
	return b
}

// all are a book's ratings.
func all(b *rack.Rack[int]) map[uint32]int {
	m := map[uint32]int{}
	for _, player := range b.Ids() {
		m[player], _ = b.Get(player)
	}
	return m
}

// sit is a seat.
func sit(player uint32, team, state int) seat.Seat {
	return seat.Seat{Player: player, Team: team, State: state}
}

// of is the match 9 at the instance 3 with these seats, numbered as they stand. Nothing else of it is asked for.
func of(seats ...seat.Seat) seat.Match {
	seats = slices.Clone(seats)
	for i := range seats {
		seats[i].Number = i
	}
	return seat.Match{Id: 9, Mode: 1, Instance: 3, Seats: seats}
}

// sits is a match in which so many are in the team 1, and so many in the team 2, who are the players 1, 2 and so on.
func sits(first, second int) seat.Match {
	var l []seat.Seat
	for i := range first + second {
		team := 1
		if i >= first {
			team = 2
		}
		l = append(l, sit(uint32(i+1), team, seat.In))
	}
	return of(l...)
}

// row is one of a team and some players.
func row(team int, players ...uint32) fill.Row {
	return fill.Row{Team: team, Players: players, Rating: 1500, Window: 100}
}

// sameRow tells whether two rows are the same.
func sameRow(a, b fill.Row) bool {
	return a.Team == b.Team && slices.Equal(a.Players, b.Players) && a.Rating == b.Rating && a.Window == b.Window
}

// sameMatch tells whether two matches are the same.
func sameMatch(a, b seat.Match) bool {
	return a.Id == b.Id && a.Mode == b.Mode && a.Instance == b.Instance && slices.EqualFunc(a.Rows, b.Rows, sameRow) && slices.Equal(a.Seats, b.Seats)
}

// same tells whether two verdicts are the same.
func same(a, b verdict.Verdict) bool {
	return a.Match == b.Match && a.Instance == b.Instance && a.Result == b.Result && slices.Equal(a.Players, b.Players) && slices.Equal(a.Old, b.Old) && slices.Equal(a.New, b.New)
}

// clone is a match that shares nothing with another one.
func clone(m seat.Match) seat.Match {
	m.Seats, m.Rows = slices.Clone(m.Seats), slices.Clone(m.Rows)
	for i := range m.Rows {
		m.Rows[i].Players = slices.Clone(m.Rows[i].Players)
	}
	return m
}

// copied is a verdict that shares nothing with another one.
func copied(v verdict.Verdict) verdict.Verdict {
	v.Players, v.Old, v.New = slices.Clone(v.Players), slices.Clone(v.Old), slices.Clone(v.New)
	return v
}

// judges fails unless just this is judged, and the book and the match stay as they are.
func judges(t *testing.T, b *rack.Rack[int], m seat.Match, result int, want verdict.Verdict, e api.Errno) {
	t.Helper()
	before, was := all(b), clone(m)
	v, n := verdict.Judge(b, m, result)
	if n != e || !same(v, want) {
		t.Errorf("%d of %v: %v %d, not %v %d", result, m.Seats, v, n, want, e)
	}
	if !maps.Equal(all(b), before) || !sameMatch(m, was) {
		t.Errorf("%v is %v now, %v is %v", before, all(b), was, m)
	}
}

// refuses fails unless a result is refused so.
func refuses(t *testing.T, b *rack.Rack[int], m seat.Match, result int, e api.Errno) {
	t.Helper()
	judges(t, b, m, result, verdict.Verdict{}, e)
}

// applies fails unless a verdict is applied so, behind which the book is as wanted, and the verdict as it was.
func applies(t *testing.T, b *rack.Rack[int], v verdict.Verdict, e api.Errno, want map[uint32]int) {
	t.Helper()
	was := copied(v)
	if n := verdict.Apply(b, v); n != e {
		t.Errorf("%v: %d, not %d", v, n, e)
	}
	if !maps.Equal(all(b), want) || !same(v, was) {
		t.Errorf("%v: %v, not %v", was, all(b), want)
	}
}

// tabled are all matches of a table.
func tabled(s *seat.Table) []seat.Match {
	var l []seat.Match
	for _, id := range s.Ids() {
		m, _ := s.Match(id)
		l = append(l, m)
	}
	return l
}

// reports fails unless just this is reported, behind which the book is as wanted, and the table has just these matches.
func reports(t *testing.T, b *rack.Rack[int], s *seat.Table, instance, match uint32, result int, v verdict.Verdict, m seat.Match, e api.Errno, want map[uint32]int, left ...seat.Match) {
	t.Helper()
	gotV, gotM, n := verdict.Report(b, s, instance, match, result)
	if n != e || !same(gotV, v) || !sameMatch(gotM, m) {
		t.Errorf("%d of %d at %d: %v %v %d, not %v %v %d", result, match, instance, gotV, gotM, n, v, m, e)
	}
	if !maps.Equal(all(b), want) || !slices.EqualFunc(tabled(s), left, sameMatch) {
		t.Errorf("%d of %d at %d: %v, not %v; %v, not %v", result, match, instance, all(b), want, tabled(s), left)
	}
}

// fails fails unless a report is refused so, and nothing is changed.
func fails(t *testing.T, b *rack.Rack[int], s *seat.Table, instance, match uint32, result int, e api.Errno) {
	t.Helper()
	reports(t, b, s, instance, match, result, verdict.Verdict{}, seat.Match{}, e, all(b), tabled(s)...)
}

// duel is a table with the match 9 of 1 and 2 at the instance 3, both in.
func duel() *seat.Table {
	s := seat.New(2)
	s.Make(9, 0, 3, row(1, 1), row(2, 2))
	s.Set(1, seat.In, 0, 0)
	s.Set(2, seat.In, 0, 0)
	return s
}

func TestTheExample(t *testing.T) {
	b, s := book(1500, 1500), duel()
	m, _ := s.Match(9)
	want := verdict.Verdict{Match: 9, Instance: 3, Result: 1, Players: []uint32{1, 2}, Old: []int{1500, 1500}, New: []int{1516, 1484}}
	reports(t, b, s, 3, 9, 1, want, m, api.OK, map[uint32]int{1: 1516, 2: 1484})
	fails(t, b, s, 3, 9, 1, api.ErrMissing)
}

// P23.1

func TestJudge(t *testing.T) {
	for _, c := range []struct {
		first, second int
		result        int
		old, new      []int
	}{
		{1, 1, 0, []int{1500, 1500}, []int{1500, 1500}},
		{1, 1, 1, []int{1500, 1500}, []int{1516, 1484}},
		{1, 1, 2, []int{1500, 1500}, []int{1484, 1516}},
		{1, 1, 0, []int{1600, 1500}, []int{1596, 1504}},
		{1, 1, 1, []int{1600, 1500}, []int{1611, 1489}},
		{1, 1, 2, []int{1600, 1500}, []int{1580, 1520}},
		{1, 1, 1, []int{1500, 1600}, []int{1520, 1580}},
		{2, 2, 1, []int{1500, 1500, 1500, 1500}, []int{1516, 1516, 1484, 1484}},
		{2, 1, 1, []int{1500, 1500, 1500}, []int{1508, 1508, 1484}},
		{1, 2, 2, []int{1500, 1500, 1500}, []int{1484, 1508, 1508}},
		{3, 1, 1, []int{1500, 1500, 1500, 1500}, []int{1506, 1505, 1505, 1484}},
		{1, 3, 1, []int{1500, 1500, 1500, 1500}, []int{1516, 1494, 1495, 1495}},
		{4, 4, 2, []int{1500, 1600, 1700, 1800, 1500, 1600, 1700, 1800}, []int{1484, 1584, 1684, 1784, 1516, 1616, 1716, 1816}},
		{1, 1, 1, []int{10000, 10000}, []int{10000, 9984}},
		{1, 1, 1, []int{0, 0}, []int{16, 0}},
		{1, 1, 2, []int{5, 3}, []int{0, 19}},
	} {
		m := sits(c.first, c.second)
		var players []uint32
		for i := range c.old {
			players = append(players, uint32(i+1))
		}
		judges(t, book(c.old...), m, c.result, verdict.Verdict{Match: 9, Instance: 3, Result: c.result, Players: players, Old: c.old, New: c.new}, api.OK)
	}
}

// judged is what a match's verdict is, by the players of both teams who count.
func judged(b *rack.Rack[int], m seat.Match, result int, first, second []uint32) verdict.Verdict {
	v := verdict.Verdict{Match: m.Id, Instance: m.Instance, Result: result, Players: slices.Concat(first, second)}
	for _, player := range v.Players {
		r, _ := b.Get(player)
		v.Old = append(v.Old, r)
	}
	v.New = slices.Clone(v.Old)
	if len(first) > 0 && len(second) > 0 {
		one, two, _ := elo.Update(v.Old[:len(first)], v.Old[len(first):], result)
		v.New = slices.Concat(one, two)
	}
	return v
}

// Who counts, of all that four seats may be: those who are in or away, team by team, as they stand, whatever numbers the players have.
func TestWhoCounts(t *testing.T) {
	players := []uint32{7, last, 1, 4}
	b := rack.New[int](4)
	for i, player := range players {
		b.Put(player, 1400+70*i)
	}
	for way := range 6 * 6 * 6 * 6 {
		var seats []seat.Seat
		var teams [2][]uint32
		for _, player := range players {
			team, state := way%2+1, states[way/2%3]
			way /= 6
			seats = append(seats, sit(player, team, state))
			if state == seat.In || state == seat.Away {
				teams[team-1] = append(teams[team-1], player)
			}
		}
		for _, result := range results {
			m := of(seats...)
			judges(t, b, m, result, judged(b, m, result, teams[0], teams[1]), api.OK)
		}
	}
}

// Numbers may have gaps, for those who sat there are lost.
func TestSeatsStandByTheirNumbers(t *testing.T) {
	s := seat.New(1)
	s.Make(9, 1, 3, row(1, 5, 6), row(2, 7, 8))
	s.Lose(5)
	s.Lose(7)
	s.Add(9, row(2, 2))
	s.Add(9, row(1, 3))
	for _, player := range []uint32{2, 3, 6, 8} {
		s.Set(player, seat.In, 0, 0)
	}
	b := rack.New[int](9)
	for player := range uint32(9) {
		b.Put(player+1, 1500+10*int(player))
	}
	m, _ := s.Match(9)
	want := judged(b, m, 2, []uint32{6, 3}, []uint32{2, 8})
	if !slices.Equal(want.Players, []uint32{6, 3, 2, 8}) || !slices.Equal(want.Old, []int{1550, 1520, 1510, 1570}) {
		t.Fatal(want)
	}
	judges(t, b, m, 2, want, api.OK)
}

// A seat's time, its nonce and its number tell nothing of who counts, nor do the match's rows and its mode.
func TestWhatElseAMatchIs(t *testing.T) {
	b := book(1500, 1600, 1700)
	plain := of(sit(1, 1, seat.In), sit(2, 2, seat.Away), sit(3, 2, seat.Waiting))
	want := judged(b, plain, 1, []uint32{1}, []uint32{2})
	for _, n := range slices.Concat(odd, none) {
		m := clone(plain)
		m.Mode, m.Rows = n, []fill.Row{row(2, 1), row(n, 8, 9), {}}
		for i := range m.Seats {
			s := &m.Seats[i]
			s.Number, s.Until, s.Nonce = n, int64(n), uint64(n)
		}
		judges(t, b, m, 1, want, api.OK)
	}
	for _, id := range slices.Concat(wrong, []uint32{1, 2, last}) {
		m := clone(plain)
		m.Id, m.Instance, want.Match, want.Instance = id, id-1, id, id-1
		judges(t, b, m, 1, want, api.OK)
	}
}

// A seat of no state, or of no team, is nobody's who counts.
func TestWhoIsOddDoesNotCount(t *testing.T) {
	for _, n := range odd {
		b := book(1500, 1500)
		m := of(sit(8, 1, n), sit(1, 1, seat.In), sit(9, 2, n), sit(2, 2, seat.In), sit(9, n, seat.Away), sit(9, n, seat.In))
		judges(t, b, m, 1, verdict.Verdict{Match: 9, Instance: 3, Result: 1, Players: []uint32{1, 2}, Old: []int{1500, 1500}, New: []int{1516, 1484}}, api.OK)
	}
}

// If a team has nobody who counts all ratings are what they were, whatever they are, and however many.
func TestWithoutATeam(t *testing.T) {
	ratings := slices.Concat([]int{0, 10000, 1500, 9999}, unrated)
	b := book(ratings...)
	for team := 1; team <= 2; team++ {
		for many := range len(ratings) + 1 {
			for _, absent := range []seat.Seat{sit(99, 3-team, seat.Waiting), sit(99, team, seat.Waiting), sit(99, 3-team, 0)} {
				seats := []seat.Seat{absent}
				var players []uint32
				for i := range many {
					seats = append(seats, sit(uint32(i+1), team, states[1+i%2]))
					players = append(players, uint32(i+1))
				}
				for _, result := range results {
					want := verdict.Verdict{Match: 9, Instance: 3, Result: result, Players: players, Old: ratings[:many], New: ratings[:many]}
					judges(t, b, of(seats...), result, want, api.OK)
				}
			}
		}
	}
}

// Where nobody counts there is a verdict, too, whatever book there is.
func TestWhereNobodyCounts(t *testing.T) {
	for _, b := range []*rack.Rack[int]{nil, {}, book(), book(1500)} {
		for _, result := range results {
			for _, m := range []seat.Match{of(), of(sit(1, 1, seat.Waiting), sit(2, 2, seat.Waiting))} {
				judges(t, b, m, result, verdict.Verdict{Match: 9, Instance: 3, Result: result}, api.OK)
			}
			judges(t, b, seat.Match{}, result, verdict.Verdict{Result: result}, api.OK)
		}
	}
}

// What is no result is told first, whatever else is wrong.
func TestWhatIsNoResult(t *testing.T) {
	for _, result := range none {
		for _, b := range []*rack.Rack[int]{nil, book(), book(1500, 1500), book(-1, 10001, 1500, 1500, 1500, 1500, 1500)} {
			for _, m := range []seat.Match{{}, of(), sits(1, 0), sits(1, 1), sits(2, 5), sits(0, 9)} {
				refuses(t, b, m, result, api.ErrRange)
			}
		}
	}
}

// Who counts needs a rating, and who does not needs none. That one is missing is told ahead of what Update tells.
func TestWithoutARating(t *testing.T) {
	for _, state := range []int{seat.In, seat.Away} {
		for team := 1; team <= 2; team++ {
			for _, player := range append([]uint32{3, last}, wrong...) {
				b := book(1500, 1500)
				for _, m := range []seat.Match{
					of(sit(player, team, state)),
					of(sit(player, team, state), sit(1, 3-team, seat.In)),
					of(sit(1, team, seat.In), sit(player, team, state)),
					of(sit(1, 1, seat.In), sit(2, 2, seat.In), sit(player, team, state)),
					of(sit(player, team, state), sit(1, 1, seat.In), sit(2, 2, seat.In)),
				} {
					for _, result := range results {
						refuses(t, b, m, result, api.ErrMissing)
						refuses(t, nil, m, result, api.ErrMissing)
						refuses(t, &rack.Rack[int]{}, m, result, api.ErrMissing)
						refuses(t, book(20000, -1), m, result, api.ErrMissing)
					}
				}
				// More than may be, and one without a rating among them.
				m := sits(5, 2)
				m.Seats[6].Player = player + 10
				refuses(t, book(1500, 1500, 1500, 1500, 1500, 1500), m, 1, api.ErrMissing)
				m = of(sit(1, 1, seat.In), sit(player, team, seat.Waiting), sit(2, 2, seat.In))
				judges(t, b, m, 1, judged(b, m, 1, []uint32{1}, []uint32{2}), api.OK)
			}
		}
	}
}

func TestTheErrorsOfUpdate(t *testing.T) {
	nine := []int{1500, 1500, 1500, 1500, 1500, 1500, 1500, 1500, 1500}
	for first := 1; first <= 8; first++ {
		for second := 1; first+second <= 9; second++ {
			m := sits(first, second)
			if first <= 4 && second <= 4 {
				_, e := verdict.Judge(book(nine...), m, 1)
				if e != api.OK {
					t.Errorf("%d against %d: %d", first, second, e)
				}
				continue
			}
			refuses(t, book(nine...), m, 1, api.ErrSize)
			refuses(t, book(-1, 1500, 1500, 1500, 1500, 1500, 1500, 1500, 10001), m, 1, api.ErrSize)
		}
	}
	for _, no := range unrated {
		for place := range 4 {
			ratings := []int{0, 1500, 10000, 1500}
			ratings[place] = no
			for first := 1; first <= 3; first++ {
				for _, result := range results {
					refuses(t, book(ratings...), sits(first, 4-first), result, api.ErrRange)
				}
			}
		}
	}
	// Whoever does not count may have any rating.
	m := of(sit(1, 1, seat.In), sit(2, 2, seat.Waiting), sit(3, 2, seat.In))
	b := book(1500, 10001, 1500)
	judges(t, b, m, 1, judged(b, m, 1, []uint32{1}, []uint32{3}), api.OK)
}

// One who has two seats, of a match that no table makes, counts at both.
func TestWhoStandsTwice(t *testing.T) {
	b := book(1500)
	judges(t, b, of(sit(1, 1, seat.In), sit(1, 2, seat.Away)), 1, verdict.Verdict{Match: 9, Instance: 3, Result: 1, Players: []uint32{1, 1}, Old: []int{1500, 1500}, New: []int{1516, 1484}}, api.OK)
	judges(t, b, of(sit(1, 2, seat.In), sit(1, 2, seat.Away)), 1, verdict.Verdict{Match: 9, Instance: 3, Result: 1, Players: []uint32{1, 1}, Old: []int{1500, 1500}, New: []int{1500, 1500}}, api.OK)
}

// P23.2

func TestApply(t *testing.T) {
	for _, c := range []struct {
		players []uint32
		new     []int
		want    map[uint32]int
	}{
		{nil, nil, map[uint32]int{1: 1500, 2: 1600, 3: 1700}},
		{[]uint32{}, []int{}, map[uint32]int{1: 1500, 2: 1600, 3: 1700}},
		{[]uint32{1}, []int{1516}, map[uint32]int{1: 1516, 2: 1600, 3: 1700}},
		{[]uint32{3}, []int{0}, map[uint32]int{1: 1500, 2: 1600, 3: 0}},
		{[]uint32{3, 1}, []int{7, 10000}, map[uint32]int{1: 10000, 2: 1600, 3: 7}},
		{[]uint32{2, 3, 1}, []int{1600, 1500, 1700}, map[uint32]int{1: 1700, 2: 1600, 3: 1500}},
		// Of one that stands twice the last one counts.
		{[]uint32{2, 2}, []int{5, 6}, map[uint32]int{1: 1500, 2: 6, 3: 1700}},
		{[]uint32{2, 1, 2, 1, 3}, []int{1, 2, 3, 4, 5}, map[uint32]int{1: 4, 2: 3, 3: 5}},
		// Ratings are taken as they come.
		{[]uint32{1, 2, 3}, []int{math.MinInt, -1, math.MaxInt}, map[uint32]int{1: math.MinInt, 2: -1, 3: math.MaxInt}},
		{[]uint32{1, 2}, []int{10001, 20000}, map[uint32]int{1: 10001, 2: 20000, 3: 1700}},
	} {
		applies(t, book(1500, 1600, 1700), verdict.Verdict{Match: 9, Instance: 3, Result: 1, Players: c.players, New: c.new}, api.OK, c.want)
		// What else the verdict is, and what the ratings were, is not asked.
		applies(t, book(1500, 1600, 1700), verdict.Verdict{Result: -1, Players: c.players, Old: []int{8, 9}, New: c.new}, api.OK, c.want)
		applies(t, book(1500, 1600, 1700), verdict.Verdict{Match: 1 << 31, Instance: 1 << 31, Result: 3, Players: c.players, Old: []int{1, 2, 3, 4, 5, 6, 7}, New: c.new}, api.OK, c.want)
	}
}

// Sizes are told ahead of players.
func TestApplyOfAWrongSize(t *testing.T) {
	for _, b := range []*rack.Rack[int]{nil, {}, book(), book(1500, 1600, 1700)} {
		before := all(b)
		for _, players := range [][]uint32{nil, {1}, {1, 2}, {3, 2, 1}, {4}, {1, 4}, {0}, {math.MaxUint32, 1}} {
			for many := range 5 {
				v := verdict.Verdict{Players: players, Old: make([]int, len(players)), New: make([]int, many)}
				if many != len(players) {
					applies(t, b, v, api.ErrSize, before)
				}
			}
		}
	}
}

func TestApplyWithoutARating(t *testing.T) {
	for _, player := range append([]uint32{4, last}, wrong...) {
		for _, players := range [][]uint32{{player}, {1, player}, {player, 1}, {1, player, 2}, {1, 2, 3, player}, {player, player}} {
			b := book(1500, 1600, 1700)
			applies(t, b, verdict.Verdict{Players: players, New: []int{1, 2, 3, 4}[:len(players)]}, api.ErrMissing, all(b))
			// Nor does it help that there is room for one more.
			roomy := rack.New[int](9)
			roomy.Put(1, 1500)
			applies(t, roomy, verdict.Verdict{Players: players, New: []int{1, 2, 3, 4}[:len(players)]}, api.ErrMissing, map[uint32]int{1: 1500})
		}
	}
}

func TestApplyToNoBook(t *testing.T) {
	for _, b := range []*rack.Rack[int]{nil, {}, rack.New[int](-1), rack.New[int](4)} {
		applies(t, b, verdict.Verdict{}, api.OK, nil)
		applies(t, b, verdict.Verdict{Match: 9, Instance: 3, Result: 2, Old: []int{1}}, api.OK, nil)
		applies(t, b, verdict.Verdict{Players: []uint32{1}, New: []int{1}}, api.ErrMissing, nil)
		applies(t, b, verdict.Verdict{Players: []uint32{0, 1}, New: []int{1, 2}}, api.ErrMissing, nil)
	}
}

// P23.3

func TestReport(t *testing.T) {
	for _, result := range results {
		b, s := book(1500, 1600, 1700, 1800, 1900), seat.New(3)
		s.Make(8, 0, 3, row(1, 5))
		s.Make(9, 2, 4, row(2, 4, 3), row(1, 1, 2))
		s.Make(10, 0, 5, row(1, 8))
		s.Set(1, seat.In, 5, 6)
		s.Set(3, seat.Away, 7, 8)
		s.Set(4, seat.In, 0, 0)
		s.Set(5, seat.In, 0, 0)
		was := tabled(s)
		want := judged(b, was[1], result, []uint32{1}, []uint32{4, 3})
		behind := all(b)
		for i, player := range want.Players {
			behind[player] = want.New[i]
		}
		if want.Match != 9 || want.Instance != 4 || slices.Equal(want.Old, want.New) {
			t.Fatal(want)
		}
		reports(t, b, s, 4, 9, result, want, was[1], api.OK, behind, was[0], was[2])
		for player := range uint32(5) {
			if s.Of(player) != 0 {
				t.Errorf("%d sits", player)
			}
		}
		fails(t, b, s, 4, 9, result, api.ErrMissing)
		// Where the match was there is room for another one, of which a result counts once, too.
		if e := s.Make(9, 0, 4, row(1, 2)); e != api.OK {
			t.Errorf("%d", e)
		}
		m, _ := s.Match(9)
		reports(t, b, s, 4, 9, 1, verdict.Verdict{Match: 9, Instance: 4, Result: 1}, m, api.OK, behind, was[0], was[2])
	}
}

// The match is looked for first, then its instance, then all that Judge looks at.
func TestTheOrderOfReportsErrors(t *testing.T) {
	for _, b := range []*rack.Rack[int]{nil, book(), book(1500), book(1500, 1500), book(-1, 1500)} {
		for _, result := range slices.Concat(results, none) {
			for _, match := range append([]uint32{1, 3, 8, 10, last}, wrong...) {
				for _, instance := range []uint32{0, 3, 4, 9} {
					fails(t, b, duel(), instance, match, result, api.ErrMissing)
					fails(t, b, nil, instance, match, result, api.ErrMissing)
					fails(t, b, &seat.Table{}, instance, match, result, api.ErrMissing)
				}
			}
			for _, instance := range append([]uint32{1, 2, 4, 9, last}, wrong...) {
				fails(t, b, duel(), instance, 9, result, api.ErrWrong)
			}
		}
		for _, result := range none {
			fails(t, b, duel(), 3, 9, result, api.ErrRange)
		}
	}
	for _, result := range results {
		for _, b := range []*rack.Rack[int]{nil, book(), book(1500), book(-1)} {
			fails(t, b, duel(), 3, 9, result, api.ErrMissing)
		}
		for _, b := range []*rack.Rack[int]{book(-1, 1500), book(1500, 10001), book(math.MinInt, math.MaxInt)} {
			fails(t, b, duel(), 3, 9, result, api.ErrRange)
		}
	}
}

// What was refused may be told right behind that.
func TestARefusedReportLeavesTheMatch(t *testing.T) {
	b, s := book(1500), duel()
	fails(t, b, s, 3, 9, 1, api.ErrMissing)
	b = book(1500, 1500)
	fails(t, b, s, 4, 9, 1, api.ErrWrong)
	fails(t, b, s, 3, 9, 3, api.ErrRange)
	m, _ := s.Match(9)
	reports(t, b, s, 3, 9, 2, judged(b, m, 2, []uint32{1}, []uint32{2}), m, api.OK, map[uint32]int{1: 1484, 2: 1516})
}

// A table asks nothing of an instance's number, so any may report.
func TestReportOfAnyInstance(t *testing.T) {
	for _, instance := range append([]uint32{1, last}, wrong...) {
		for _, id := range []uint32{1, 255, last} {
			b, s := book(1500), seat.New(1)
			s.Make(id, -1, instance, row(1, 1))
			s.Set(1, seat.In, 0, 0)
			m, _ := s.Match(id)
			fails(t, b, s, instance+1, id, 1, api.ErrWrong)
			fails(t, b, s, instance-1, id, 1, api.ErrWrong)
			reports(t, b, s, instance, id, 1, verdict.Verdict{Match: id, Instance: instance, Result: 1, Players: []uint32{1}, Old: []int{1500}, New: []int{1500}}, m, api.OK, map[uint32]int{1: 1500})
		}
	}
}

// A match ends by its result, though nobody counts, or nobody sits there any more; and without a book.
func TestReportWhereNobodyCounts(t *testing.T) {
	for _, b := range []*rack.Rack[int]{nil, {}, book(1500, 1500)} {
		for _, result := range results {
			s := seat.New(1)
			s.Make(9, 0, 3, row(1, 1), row(2, 2))
			m, _ := s.Match(9)
			reports(t, b, s, 3, 9, result, verdict.Verdict{Match: 9, Instance: 3, Result: result}, m, api.OK, all(b))
			s.Make(9, 0, 3, row(1, 1), row(2, 2))
			s.Lose(1)
			s.Lose(2)
			reports(t, b, s, 3, 9, result, verdict.Verdict{Match: 9, Instance: 3, Result: result}, seat.Match{Id: 9, Instance: 3}, api.OK, all(b))
		}
	}
}

// P23.4

// someTable is a table with matches by chance: some players are lost, others come, or go away, or wait still.
func someTable(r *rand.Rand) *seat.Table {
	s, player := seat.New(5), uint32(1)
	for id := range uint32(5) {
		var rows []fill.Row
		for team := 1; team <= 2; team++ {
			for range 1 + r.Intn(4) {
				rows = append(rows, row(team, player))
				player++
			}
		}
		r.Shuffle(len(rows), func(i, j int) { rows[i], rows[j] = rows[j], rows[i] })
		s.Make(id+1, r.Intn(4), 1+uint32(r.Intn(3)), rows...)
	}
	for p := uint32(1); p < player; p++ {
		if state := r.Intn(8); state == 0 {
			s.Lose(p)
		} else {
			s.Set(p, states[state%3], r.Int63(), r.Uint64())
		}
	}
	return s
}

// sum is that of all ratings.
func sum(ratings map[uint32]int) int {
	total := 0
	for _, r := range ratings {
		total += r
	}
	return total
}

// edge tells whether a rating of a verdict was brought to the edge of what may be.
func edge(v verdict.Verdict) bool {
	return slices.ContainsFunc(v.New, func(r int) bool { return r == 0 || r == api.MaxRating })
}

// follows fails unless a verdict that was reported of a match is as the chapter says, and what became of the ratings, too.
func follows(t *testing.T, v verdict.Verdict, m seat.Match, before, after map[uint32]int) {
	t.Helper()
	var counting []uint32
	for team := 1; team <= 2; team++ {
		for _, s := range m.Seats {
			if s.Team == team && s.State != seat.Waiting {
				counting = append(counting, s.Player)
			}
		}
	}
	if !slices.Equal(v.Players, counting) || len(v.Old) != len(counting) || len(v.New) != len(counting) {
		t.Fatalf("%v of %v", v, m)
	}
	want := maps.Clone(before)
	for i, player := range v.Players {
		want[player] = v.New[i]
		if before[player] != v.Old[i] || v.New[i] < 0 || v.New[i] > api.MaxRating {
			t.Fatalf("%v, and %d was %d", v, player, before[player])
		}
	}
	if !maps.Equal(after, want) || !edge(v) && sum(after) != sum(before) {
		t.Fatalf("%v: %v behind %v", v, after, before)
	}
}

func TestWhatFollows(t *testing.T) {
	r := rand.New(rand.NewSource(23))
	changed, edges, counted := 0, 0, 0
	for range 3000 {
		s, b := someTable(r), rack.New[int](64)
		for p := range uint32(48) {
			b.Put(p+1, []int{r.Intn(10001), 1500, 1400 + r.Intn(200), r.Intn(9), 9990 + r.Intn(11)}[r.Intn(5)])
		}
		told := map[uint32]bool{}
		for range 40 {
			instance, match, result, before, was := 1+uint32(r.Intn(3)), 1+uint32(r.Intn(6)), r.Intn(4), all(b), tabled(s)
			there, is := s.Match(match)
			v, m, e := verdict.Report(b, s, instance, match, result)
			if told[match] && e != api.ErrMissing || e == api.OK != (is && there.Instance == instance && result < 3) {
				t.Fatalf("%d of %d: %v %d", result, match, v, e)
			}
			if e != api.OK {
				if !maps.Equal(all(b), before) || !slices.EqualFunc(tabled(s), was, sameMatch) || !same(v, verdict.Verdict{}) || !sameMatch(m, seat.Match{}) {
					t.Fatalf("%d changed something", e)
				}
				continue
			}
			follows(t, v, m, before, all(b))
			rest := slices.DeleteFunc(was, func(m seat.Match) bool { return m.Id == match })
			if !sameMatch(m, there) || !slices.EqualFunc(tabled(s), rest, sameMatch) {
				t.Fatalf("%v was %v; %v, not %v", m, there, tabled(s), rest)
			}
			told[match] = true
			counted++
			if !slices.Equal(v.Old, v.New) {
				changed++
			}
			if edge(v) {
				edges++
			}
		}
	}
	if counted < 3000 || changed < 1000 || edges < 100 {
		t.Errorf("%d counted, %d changed something, %d came to an edge", counted, changed, edges)
	}
}

// Reported one behind the other, results of the same players count each.
func TestResultsBehindOneAnother(t *testing.T) {
	b := book(1500, 1500)
	for i := range 40 {
		s := duel()
		if _, _, e := verdict.Report(b, s, 3, 9, 1); e != api.OK {
			t.Fatalf("%d: %d", i, e)
		}
		one, _ := b.Get(1)
		two, _ := b.Get(2)
		if one+two != 3000 || i == 0 && one != 1516 || i == 1 && one != 1532 || i == 2 && one != 1545 {
			t.Errorf("%d: %d and %d", i, one, two)
		}
	}
}

// The rules R2, R4 and R6

// With an error there is nothing beside it, whatever was gathered till then.
func TestNothingBesideAnError(t *testing.T) {
	for _, c := range []struct {
		b      *rack.Rack[int]
		m      seat.Match
		result int
	}{
		{book(1500, 1500), sits(1, 1), 3}, {book(1500), sits(1, 1), 1}, {nil, sits(1, 1), 1}, {book(1500, -1), sits(1, 1), 1}, {book(1, 2, 3, 4, 5, 6), sits(5, 1), 1}, {book(1, 2, 3, 4, 5, 6), sits(1, 5), 1},
	} {
		v, e := verdict.Judge(c.b, c.m, c.result)
		if e == api.OK || v.Match != 0 || v.Instance != 0 || v.Result != 0 || len(v.Players)+len(v.Old)+len(v.New) != 0 {
			t.Errorf("%v %d", v, e)
		}
	}
}

// blot writes into a list, and as far behind it as its memory goes.
func blot[N int | uint32](l []N) {
	l = l[:cap(l)]
	for i := range l {
		l[i] = 99
	}
}

// blotSeats writes so into seats.
func blotSeats(l []seat.Seat) {
	l = l[:cap(l)]
	for i := range l {
		l[i] = sit(99, 2, seat.In)
	}
}

// blotRows writes so into rows, and into their lists.
func blotRows(l []fill.Row) {
	l = l[:cap(l)]
	for i := range l {
		blot(l[i].Players)
		l[i] = row(2, 99)
	}
}

// unshared fails unless each list of a verdict can be spoilt without the other ones.
func unshared(t *testing.T, v verdict.Verdict) {
	t.Helper()
	was := copied(v)
	blot(v.Players)
	if !slices.Equal(v.Old, was.Old) || !slices.Equal(v.New, was.New) {
		t.Errorf("the players of %v share", was)
	}
	copy(v.Players, was.Players)
	blot(v.Old)
	if !slices.Equal(v.New, was.New) || !slices.Equal(v.Players, was.Players) {
		t.Errorf("the old ratings of %v share", was)
	}
	copy(v.Old, was.Old)
	blot(v.New)
	if !slices.Equal(v.Old, was.Old) || !slices.Equal(v.Players, was.Players) {
		t.Errorf("the new ratings of %v share", was)
	}
}

// A verdict shares nothing with the match or the book, or with another verdict, or one of its lists with another one.
func TestVerdictsAreTheirOwn(t *testing.T) {
	for _, m := range []seat.Match{sits(1, 1), sits(4, 4), sits(3, 0), sits(0, 2), sits(0, 0)} {
		ratings := []int{1500, 1600, 1700, 1800, 1900, 2000, 2100, 2200}
		b := book(ratings...)
		before, was := all(b), clone(m)
		v, _ := verdict.Judge(b, m, 1)
		other, _ := verdict.Judge(b, m, 1)
		want := copied(v)
		if !same(v, other) {
			t.Errorf("%v, and then %v", v, other)
		}
		unshared(t, v)
		if !same(other, want) || !sameMatch(m, was) || !maps.Equal(all(b), before) {
			t.Errorf("%v, not %v; %v, not %v", other, want, m, was)
		}
		blotSeats(m.Seats)
		if !same(other, want) {
			t.Errorf("%v, not %v", other, want)
		}
	}
}

// What is applied is not kept.
func TestWhatIsAppliedIsNotKept(t *testing.T) {
	b := book(1500, 1600)
	v := verdict.Verdict{Players: []uint32{1, 2, 7}[:2], Old: []int{1, 2, 7}[:2], New: []int{8, 9, 7}[:2]}
	applies(t, b, v, api.OK, map[uint32]int{1: 8, 2: 9})
	if v.Players[:3][2] != 7 || v.Old[:3][2] != 7 || v.New[:3][2] != 7 {
		t.Errorf("%v", v)
	}
	unshared(t, v)
	if !maps.Equal(all(b), map[uint32]int{1: 8, 2: 9}) {
		t.Errorf("%v", all(b))
	}
}

// What is reported shares nothing, either: the verdict and the match may be spoilt.
func TestReportsAreTheirOwn(t *testing.T) {
	b, s := book(1500, 1600, 1700, 1800), seat.New(2)
	s.Make(9, 0, 3, row(1, 1, 2), row(2, 3))
	s.Make(8, 0, 3, row(1, 4))
	for p := range uint32(4) {
		s.Set(p+1, seat.In, 0, 0)
	}
	kept, _ := s.Match(8)
	v, m, e := verdict.Report(b, s, 3, 9, 1)
	wantV, wantM, after := copied(v), clone(m), all(b)
	if e != api.OK || len(v.Players) != 3 || len(m.Seats) != 3 || len(m.Rows) != 2 {
		t.Fatal(v, m, e)
	}
	unshared(t, v)
	if !sameMatch(m, wantM) || !maps.Equal(all(b), after) {
		t.Errorf("%v, not %v", m, wantM)
	}
	v = copied(wantV)
	blotRows(m.Rows)
	blotSeats(m.Seats)
	if now := tabled(s); !same(v, wantV) || len(now) != 1 || !sameMatch(now[0], kept) {
		t.Errorf("%v, %v", v, now)
	}
}

// What is judged hangs on nothing that was judged ahead.
func TestTheSameIsJudgedTheSame(t *testing.T) {
	b, m := book(1500, 1600, 1700), sits(2, 1)
	want, _ := verdict.Judge(b, m, 2)
	for _, result := range []int{0, 1, 3, 2, 2} {
		verdict.Judge(b, sits(1, 2), result)
		verdict.Judge(book(1), m, result)
		judges(t, b, m, 2, want, api.OK)
	}
}

// Of very many seats it is told in no time.
func TestManySeatsAreNotLong(t *testing.T) {
	m, b := sits(200000, 0), book(make([]int, 300)...)
	refuses(t, b, m, 1, api.ErrMissing)
	for i := range m.Seats {
		m.Seats[i].Player = uint32(i%300 + 1)
	}
	if v, e := verdict.Judge(b, m, 1); e != api.OK || len(v.Players) != 200000 {
		t.Errorf("%d players, %d", len(v.Players), e)
	}
	m.Seats[0].Team = 2
	refuses(t, b, m, 1, api.ErrSize)
}
