package seat_test

import (
	"math"
	"math/rand"
	"runtime"
	"slices"
	"testing"

	"tiltyard/api"
	"tiltyard/fill"
	"tiltyard/seat"
)

const last = 1<<31 - 1

// ids are some at their edges, wrong are numbers that are none; times, numbers and nonces are those at the edges of their types, and some between.
var (
	ids     = []uint32{1, 2, 3, 255, 65536, 1 << 30, last - 1, last}
	wrong   = []uint32{0, 1 << 31, 1<<31 + 1, 1<<31 + 7, math.MaxUint32 - 1, math.MaxUint32}
	times   = []int64{math.MinInt64, math.MinInt64 + 1, -1, 0, 1, 9, math.MaxInt64 - 1, math.MaxInt64}
	numbers = []int{math.MinInt, math.MinInt + 1, -1 << 30, -2, -1, 0, 1, 2, 3, 4, 5, 257, 258, 1 << 30, math.MaxInt - 1, math.MaxInt}
	nonces  = []uint64{0, 1, 255, 1 << 32, 1 << 63, math.MaxUint64 - 1, math.MaxUint64}
)

// row is one of a team and some players.
func row(team int, players ...uint32) fill.Row {
	return fill.Row{Team: team, Players: players, Rating: 1500, Window: 100}
}

// run are so many players, from one on.
func run(first uint32, many int) []uint32 {
	l := make([]uint32, many)
	for i := range l {
		l[i] = first + uint32(i)
	}
	return l
}

// ones are rows of a team, of one player each.
func ones(team int, players ...uint32) []fill.Row {
	var l []fill.Row
	for _, player := range players {
		l = append(l, row(team, player))
	}
	return l
}

// of is a match of the mode 1 at the instance 3 of some rows, in which nobody has sat ahead of them, and all wait.
func of(id uint32, rows ...fill.Row) seat.Match {
	m := seat.Match{Id: id, Mode: 1, Instance: 3, Rows: rows}
	for _, r := range rows {
		for _, player := range r.Players {
			m.Seats = append(m.Seats, seat.Seat{Player: player, Team: r.Team, Number: len(m.Seats), State: 1})
		}
	}
	return m
}

// set is a match of which a player's seat is another one.
func set(m seat.Match, player uint32, state int, until int64, nonce uint64) seat.Match {
	m.Seats = slices.Clone(m.Seats)
	for i := range m.Seats {
		if s := &m.Seats[i]; s.Player == player {
			s.State, s.Until, s.Nonce = state, until, nonce
		}
	}
	return m
}

// with is a table for so many matches, in which these are, whose seats are as those of matches in which nobody was lost.
func with(most int, matches ...seat.Match) *seat.Table {
	t := seat.New(most)
	for _, m := range matches {
		t.Make(m.Id, m.Mode, m.Instance, m.Rows...)
		for _, s := range m.Seats {
			t.Set(s.Player, s.State, s.Until, s.Nonce)
		}
	}
	return t
}

// sameRow tells whether two rows are the same.
func sameRow(a, b fill.Row) bool {
	return a.Team == b.Team && slices.Equal(a.Players, b.Players) && a.Rating == b.Rating && a.Window == b.Window
}

// same tells whether two matches are the same.
func same(a, b seat.Match) bool {
	return a.Id == b.Id && a.Mode == b.Mode && a.Instance == b.Instance && slices.EqualFunc(a.Rows, b.Rows, sameRow) && slices.Equal(a.Seats, b.Seats)
}

// all are the matches of a table.
func all(t *seat.Table) []seat.Match {
	var l []seat.Match
	for _, id := range t.Ids() {
		m, _ := t.Match(id)
		l = append(l, m)
	}
	return l
}

// holds tells whether a table has just these matches, which rise, whatever is asked of it.
func holds(t *seat.Table, matches ...seat.Match) bool {
	var there, near []uint32
	at, seats := map[uint32]uint32{}, map[uint32]seat.Seat{}
	for _, m := range matches {
		there = append(there, m.Id)
		for _, s := range m.Seats {
			near = append(near, s.Player)
			at[s.Player], seats[s.Player] = m.Id, s
		}
		if got, is := t.Match(m.Id); !is || !same(got, m) {
			return false
		}
	}
	for _, x := range slices.Concat(there, near, ids, wrong) {
		for _, id := range []uint32{x - 1, x, x + 1} {
			got, is := t.Match(id)
			if !slices.Contains(there, id) && (is || !same(got, seat.Match{})) || t.Of(id) != at[id] {
				return false
			}
			if s, sits := t.Seat(id); s != seats[id] || sits != (at[id] != 0) {
				return false
			}
		}
	}
	return slices.Equal(t.Ids(), there)
}

// has fails unless a table has just these matches.
func has(t *testing.T, table *seat.Table, matches ...seat.Match) {
	t.Helper()
	if !holds(table, matches...) {
		t.Errorf("%v, not %v", all(table), matches)
	}
}

// makes fails unless a match is made, with this error.
func makes(t *testing.T, table *seat.Table, id uint32, e api.Errno, rows ...fill.Row) {
	t.Helper()
	if got := table.Make(id, 1, 3, rows...); got != e {
		t.Errorf("%d of %v: %d, not %d", id, rows, got, e)
	}
}

// adds fails unless rows sit down, with this error.
func adds(t *testing.T, table *seat.Table, id uint32, e api.Errno, rows ...fill.Row) {
	t.Helper()
	if got := table.Add(id, rows...); got != e {
		t.Errorf("%v to %d: %d, not %d", rows, id, got, e)
	}
}

// sets fails unless a seat is set, with this error.
func sets(t *testing.T, table *seat.Table, player uint32, state int, until int64, nonce uint64, e api.Errno) {
	t.Helper()
	if got := table.Set(player, state, until, nonce); got != e {
		t.Errorf("%d is set to %d: %d, not %d", player, state, got, e)
	}
}

// loses fails unless a seat is lost, and just this is answered.
func loses(t *testing.T, table *seat.Table, player, id uint32, left int, e api.Errno) {
	t.Helper()
	if got, seats, n := table.Lose(player); got != id || seats != left || n != e {
		t.Errorf("%d is lost: %d %d %d, not %d %d %d", player, got, seats, n, id, left, e)
	}
}

// ends fails unless a match ends, and just this is answered.
func ends(t *testing.T, table *seat.Table, id uint32, m seat.Match, was bool) {
	t.Helper()
	if got, is := table.End(id); !same(got, m) || is != was {
		t.Errorf("%d ends: %v %v, not %v %v", id, got, is, m, was)
	}
}

// P22.1

func TestStatesAreNumbered(t *testing.T) {
	if seat.Waiting != 1 || seat.In != 2 || seat.Away != 3 {
		t.Error("the states have other numbers")
	}
}

func TestNew(t *testing.T) {
	for _, most := range []int{math.MinInt, -1 << 31, -2, -1, 0, 1, 2, 3, 16, 100} {
		table := seat.New(most)
		if table == nil || !holds(table) {
			t.Fatalf("a table of %d is not empty", most)
		}
		for i := range uint32(max(most, 0)) {
			makes(t, table, i+1, api.OK, row(1, 1000+i))
		}
		for range 2 {
			makes(t, table, 999, api.ErrFull, row(1, 999))
			if len(table.Ids()) != max(most, 0) {
				t.Errorf("a table of %d has %d matches", most, len(table.Ids()))
			}
		}
	}
}

func TestATableForManyTakesNoRoomAhead(t *testing.T) {
	before := inUse()
	table := seat.New(math.MaxInt)
	makes(t, table, 1, api.OK, row(1, 2))
	if more := inUse() - before; more > 1<<20 || !holds(table, of(1, row(1, 2))) {
		t.Errorf("%d bytes of memory", more)
	}
}

func TestTheExample(t *testing.T) {
	table := seat.New(1)
	makes(t, table, 5, api.OK, row(1, 7, 8), row(2, 9))
	has(t, table, of(5, row(1, 7, 8), row(2, 9)))
	for number, player := range []uint32{7, 8, 9} {
		if s, _ := table.Seat(player); s.Number != number {
			t.Errorf("%d has the seat %d, not %d", player, s.Number, number)
		}
	}
	loses(t, table, 7, 5, 2, api.OK)
	adds(t, table, 5, api.OK, row(1, 6))
	has(t, table, seat.Match{Id: 5, Mode: 1, Instance: 3, Rows: []fill.Row{row(1, 8), row(2, 9), row(1, 6)}, Seats: []seat.Seat{
		{Player: 6, Team: 1, Number: 0, State: 1}, {Player: 8, Team: 1, Number: 1, State: 1}, {Player: 9, Team: 2, Number: 2, State: 1},
	}})
}

// The seats stand in the rows' order, and in that of each row's players, whatever the teams are, and whatever numbers the players have.
func TestMake(t *testing.T) {
	for _, rows := range [][]fill.Row{
		{row(1, 7)}, {row(2, 7)}, {row(1, last, 1)}, {row(2, 4, 3, 2, 1)}, {row(1, 4, 3, 2, 1), row(2, 8, 7, 6, 5)}, {row(2, 4, 3, 2, 1), row(1, 8, 7, 6, 5)},
		{row(2, 9), row(1, 8), row(2, 7), row(1, 6), row(2, 5), row(1, 4), row(1, 3), row(2, 2)},
		{row(1, 9, 2), row(2, 8), row(1, 1), row(2, 3, 5, 4), row(1, 6)}, ones(1, 5, 9, 7, 1),
	} {
		for _, id := range ids {
			table := seat.New(1)
			makes(t, table, id, api.OK, rows...)
			has(t, table, of(id, rows...))
		}
	}
}

// Nothing is asked of a mode's number, an instance's, a rating or a window: they are what they are.
func TestMakeOfAnyNumbers(t *testing.T) {
	for i, mode := range numbers {
		for j, instance := range slices.Concat(ids, wrong) {
			a, b := row(1, 7, 8), row(2, 9)
			a.Rating, a.Window, b.Rating, b.Window = numbers[j%len(numbers)], mode, mode, numbers[(i+j)%len(numbers)]
			table := seat.New(1)
			if e := table.Make(5, mode, instance, a, b); e != api.OK {
				t.Errorf("%d %d: %d", mode, instance, e)
			}
			want := of(5, a, b)
			want.Mode, want.Instance = mode, instance
			has(t, table, want)
			loses(t, table, 7, 5, 2, api.OK)
			a.Players = []uint32{8}
			want.Rows, want.Seats = []fill.Row{a, b}, want.Seats[1:]
			has(t, table, want)
		}
	}
}

// tables are an empty table, one without room, and some in which matches are.
func tables() []*seat.Table {
	return []*seat.Table{seat.New(4), seat.New(0), with(1, of(1, row(1, 1), row(2, 2))), with(3, set(of(2, row(1, 1, 2), row(2, 3)), 2, 3, 8, 7), of(5, row(2, 9)))}
}

// noIds are rows of which a player is no id, whatever else is wrong: how many they are, or their team, or that one has a seat, or stands twice.
func noIds(no uint32) [][]fill.Row {
	return [][]fill.Row{
		{row(1, no)}, {row(2, 7, no)}, {row(1, no, 7)}, {row(1, 7, 8, 11, no)}, {row(1, 7), row(2, no)}, {row(2, no), row(1, 7)}, {row(1, 7), row(2, 11, no), row(1, 12)},
		{row(0, no)}, {row(3, no)}, {row(0, 7), row(1, no)}, {row(1, no), row(3, 7)}, {row(1), row(1, no)}, {row(1, no), row(2)}, {row(1, append(run(11, 4), no)...)},
		{row(1, run(11, 5)...), row(2, no)}, {row(1, run(11, 4)...), row(1, no)}, {row(1, no), row(1, run(11, 4)...)}, {row(1, no, no)}, {row(1, no), row(1, no)}, {row(1, 1, no)}, {row(1, 7, 7), row(2, no)}, {row(1, 9), row(2, no)},
	}
}

func TestOfWhatIsNoId(t *testing.T) {
	for _, table := range tables() {
		before := all(table)
		for _, no := range wrong {
			for _, rows := range noIds(no) {
				makes(t, table, 1, api.ErrId, rows...)
				makes(t, table, 7, api.ErrId, rows...)
				makes(t, table, no, api.ErrId, rows...)
				for _, m := range before {
					adds(t, table, m.Id, api.ErrId, rows...)
				}
			}
			for _, rows := range [][]fill.Row{nil, {}, {row(1, 7)}, {row(1, 1)}, {row(0, 7)}, {row(1)}, {row(1, 7, 7)}, {row(1, run(11, 5)...)}} {
				makes(t, table, no, api.ErrId, rows...)
			}
		}
		has(t, table, before...)
	}
}

// wrongSizes are rows that can't be, whatever match they are for; whether one of their players has a seat, or stands twice, or not.
func wrongSizes() [][]fill.Row {
	l := [][]fill.Row{
		nil, {}, {row(1)}, {row(2)}, {row(0)}, {row(1, 7), row(2)}, {row(1), row(2, 7)}, {row(1, 7), row(1), row(2, 8)},
		{row(1, run(11, 5)...)}, {row(2, run(11, 5)...)}, {row(2, run(11, 8)...)}, {row(2, run(11, 300)...)}, {row(1, 7), row(2, run(11, 5)...)},
		{row(1, run(11, 4)...), row(1, 7)}, {row(2, 7), row(2, run(11, 4)...)}, {row(1, 7, 8), row(2, 6), row(1, 11, 12, 13)}, {row(2, 7), row(1, 8), row(2, 11), row(2, 12), row(1, 13), row(2, 14), row(2, 15)},
		ones(1, run(11, 5)...), ones(2, run(11, 9)...), ones(2, run(11, 1000)...),
		{row(1), row(2, 1)}, {row(1, run(1, 5)...)}, {row(1, 7, 7, 7, 7, 7)}, {row(1, 7, 7), row(1, 7, 7), row(1, 7)}, {row(1, 1, 2, 3), row(1, 1, 2)},
	}
	for _, team := range numbers {
		if team != 1 && team != 2 {
			l = append(l, []fill.Row{row(team, 7)}, []fill.Row{row(1, 7), row(team, 8)}, []fill.Row{row(team, 8), row(2, 7)}, []fill.Row{row(team, 1)}, []fill.Row{row(team, 7, 7)})
		}
	}
	return l
}

func TestOfAWrongSize(t *testing.T) {
	for _, table := range tables() {
		before := all(table)
		for _, rows := range wrongSizes() {
			for _, id := range []uint32{1, 2, 5, 7} {
				makes(t, table, id, api.ErrSize, rows...)
			}
			for _, m := range before {
				adds(t, table, m.Id, api.ErrSize, rows...)
			}
		}
		has(t, table, before...)
	}
}

func TestMakeOfWhatIsThere(t *testing.T) {
	before := []seat.Match{set(of(2, row(1, 1, 2), row(2, 3)), 2, 3, 8, 7), of(5, row(2, 9))}
	// A full table answers so, too.
	for _, most := range []int{2, 3} {
		table := with(most, before...)
		for _, id := range []uint32{2, 5} {
			makes(t, table, id, api.ErrExists, row(1, 7))
			makes(t, table, id, api.ErrExists, row(1, 7), row(2, 8))
			makes(t, table, id, api.ErrExists, row(1, 1))
			makes(t, table, id, api.ErrExists, row(1, 7, 7))
		}
		for _, rows := range seated() {
			makes(t, table, 7, api.ErrExists, rows...)
		}
		has(t, table, before...)
	}
	for _, rows := range [][]fill.Row{{row(1, 8, 8)}, {row(1, 8), row(2, 8)}} {
		makes(t, seat.New(0), 7, api.ErrExists, rows...)
		makes(t, seat.New(1), 7, api.ErrExists, rows...)
	}
}

// seated are rows of which a player has a seat in the match 2 of 1 2 and 3 or in the match 5 of 9, or stands twice.
func seated() [][]fill.Row {
	return [][]fill.Row{
		{row(1, 1)}, {row(1, 2)}, {row(2, 3)}, {row(1, 3)}, {row(1, 9)}, {row(1, 7), row(2, 9)}, {row(2, 9), row(1, 7)}, {row(1, 7), row(1, 8, 1)}, {row(2, 11, 12, 3)}, {row(2, 1), row(2, 2, 3)},
		{row(1, 7, 7)}, {row(1, 7, 8, 7)}, {row(2, 8, 7, 7)}, {row(1, 7), row(2, 7)}, {row(1, 7), row(1, 7)}, {row(1, 8), row(2, 7), row(1, 8)}, {row(2, 7), row(1, 8), row(1, 8)}, {row(2, 7, 8, 11), row(1, 12, 11)},
	}
}

func TestMakeInTheFull(t *testing.T) {
	a, b := of(2, row(1, 1), row(2, 2)), of(5, row(2, 9))
	table := with(2, a, b)
	for _, id := range []uint32{1, 3, 7, last} {
		makes(t, table, id, api.ErrFull, row(1, 7))
		makes(t, table, id, api.ErrFull, row(1, 11, 12, 13, 14), row(2, 15, 16, 17, 18))
	}
	has(t, table, a, b)
	// With one less there is room for one more; a match without seats takes its room still.
	loses(t, table, 9, 5, 0, api.OK)
	makes(t, table, 3, api.ErrFull, row(1, 9))
	ends(t, table, 5, seat.Match{Id: 5, Mode: 1, Instance: 3}, true)
	makes(t, table, 3, api.OK, row(1, 9))
	makes(t, table, 5, api.ErrFull, row(1, 7))
	has(t, table, a, of(3, row(1, 9)))
}

func TestAdd(t *testing.T) {
	table := with(2, of(5, row(1, 7, 8), row(2, 9)), of(6, row(1, 3)))
	adds(t, table, 5, api.OK, row(2, 2, 1))
	has(t, table, of(5, row(1, 7, 8), row(2, 9), row(2, 2, 1)), of(6, row(1, 3)))
	adds(t, table, 5, api.OK, row(2, 12), row(1, 11), row(1, 10))
	has(t, table, of(5, row(1, 7, 8), row(2, 9), row(2, 2, 1), row(2, 12), row(1, 11), row(1, 10)), of(6, row(1, 3)))
	// Seats that are there stay as they are, and so does the row's own rating and window.
	sets(t, table, 3, 2, 9, 8, api.OK)
	x := fill.Row{Team: 2, Players: []uint32{6, 4, 5}, Rating: -7, Window: math.MaxInt}
	adds(t, table, 6, api.OK, x)
	has(t, table, of(5, row(1, 7, 8), row(2, 9), row(2, 2, 1), row(2, 12), row(1, 11), row(1, 10)), set(of(6, row(1, 3), x), 3, 2, 9, 8))
}

func TestAddToWhatIsNotThere(t *testing.T) {
	table := with(3, of(2, row(1, 1, 2), row(2, 3)), of(5, row(2, 9)))
	for _, id := range slices.Concat([]uint32{1, 3, 4, 6, 9, last}, wrong) {
		// Whatever else is wrong.
		for _, rows := range slices.Concat(wrongSizes(), seated(), noIds(0), [][]fill.Row{{row(1, 7)}, {row(1, id)}}) {
			adds(t, table, id, api.ErrMissing, rows...)
		}
	}
	has(t, table, of(2, row(1, 1, 2), row(2, 3)), of(5, row(2, 9)))
}

// How many a team has counts with those that are there, whether their seats wait, are in, or away.
func TestAddOfTooMany(t *testing.T) {
	for first := range 5 {
		for second := range 5 {
			for one := range 6 {
				for two := range 6 {
					if first+second == 0 || one+two == 0 {
						continue
					}
					old, more := slices.Concat(ones(2, run(21, second)...), ones(1, run(11, first)...)), slices.Concat(ones(1, run(31, one)...), ones(2, run(41, two)...))
					m, e := of(3, old...), api.OK
					for i, s := range m.Seats {
						m = set(m, s.Player, 1+i%3, 7, 8)
					}
					table := with(1, m)
					if first+one > 4 || second+two > 4 {
						e = api.ErrSize
					}
					adds(t, table, 3, e, more...)
					if e == api.OK {
						m = down(m, more)
					}
					has(t, table, m)
				}
			}
		}
	}
	// That a team has too many counts ahead of who has a seat, or stands twice.
	table := with(1, of(2, row(1, 1, 2, 3)))
	for _, rows := range [][]fill.Row{{row(1, 1, 2)}, {row(1, 7, 7)}, {row(1, 1), row(1, 8)}, {row(2, 1), row(1, 7, 8)}} {
		adds(t, table, 2, api.ErrSize, rows...)
	}
	adds(t, table, 2, api.ErrExists, row(1, 1))
	adds(t, table, 2, api.OK, row(1, 8), row(2, 4, 5, 6, 7))
}

func TestAddOfWhoIsThere(t *testing.T) {
	before := []seat.Match{set(of(2, row(1, 1, 2), row(2, 3)), 2, 3, 8, 7), of(5, row(2, 9))}
	table := with(2, before...)
	for _, rows := range [][]fill.Row{{row(1, 1)}, {row(2, 2)}, {row(2, 3)}, {row(1, 3)}, {row(1, 9)}, {row(1, 7), row(2, 9)}, {row(2, 9), row(1, 7)}, {row(1, 7, 7)}, {row(2, 7, 8, 7)}, {row(1, 7), row(2, 7)}, {row(2, 7), row(1, 8), row(2, 7)}} {
		adds(t, table, 2, api.ErrExists, rows...)
		adds(t, table, 5, api.ErrExists, rows...)
	}
	has(t, table, before...)
}

// A new seat has the least number that none has, and stands by it, whichever were lost ahead.
func TestNewSeatsTakeTheLeastNumbers(t *testing.T) {
	players := run(11, 8)
	for lost := range 1 << 8 {
		table := seat.New(1)
		makes(t, table, 1, api.OK, row(1, players[:4]...), row(2, players[4:]...))
		want, gaps, rows := of(1, row(1, players[:4]...), row(2, players[4:]...)), []int{}, []fill.Row{}
		var left [2][]uint32
		for i, player := range players {
			if lost>>i&1 == 0 {
				left[i/4] = append(left[i/4], player)
				continue
			}
			gaps = append(gaps, i)
			rows = append(rows, row(i/4+1, 31+uint32(len(gaps))))
			loses(t, table, player, 1, 8-len(gaps), api.OK)
		}
		if lost == 0 {
			continue
		}
		want.Rows = nil
		for i, l := range left {
			if len(l) > 0 {
				want.Rows = append(want.Rows, row(i+1, l...))
			}
		}
		slices.Reverse(rows)
		for i, r := range rows {
			want.Seats[gaps[i]] = seat.Seat{Player: r.Players[0], Team: r.Team, Number: gaps[i], State: 1}
		}
		want.Rows = append(want.Rows, rows...)
		adds(t, table, 1, api.OK, rows...)
		has(t, table, want)
	}
}

// P22.2

func TestSet(t *testing.T) {
	for state := 1; state <= 3; state++ {
		for _, until := range times {
			for _, nonce := range nonces {
				a, b := of(5, row(1, 7, 8), row(2, 9)), of(6, row(2, 1))
				table := with(2, a, b)
				sets(t, table, 8, state, until, nonce, api.OK)
				has(t, table, set(a, 8, state, until, nonce), b)
				sets(t, table, 9, 3, 4, 5, api.OK)
				sets(t, table, 8, 2, 0, 0, api.OK)
				has(t, table, set(set(a, 8, 2, 0, 0), 9, 3, 4, 5), b)
			}
		}
	}
}

// From each state each other one may come, as a seat is set to what is told.
func TestSetFromEachState(t *testing.T) {
	for from := 1; from <= 3; from++ {
		for to := 1; to <= 3; to++ {
			table := with(1, set(of(5, row(1, 7)), 7, from, 8, 9))
			sets(t, table, 7, to, 11, 12, api.OK)
			has(t, table, set(of(5, row(1, 7)), 7, to, 11, 12))
		}
	}
}

func TestSetToNoState(t *testing.T) {
	m := set(of(5, row(1, 7, 8), row(2, 9)), 8, 3, 4, 5)
	table := with(2, m)
	for _, state := range numbers {
		if state >= 1 && state <= 3 {
			continue
		}
		for _, player := range []uint32{7, 8, 9} {
			sets(t, table, player, state, 6, 7, api.ErrRange)
		}
		// Whoever has no seat is told so ahead of it.
		for _, player := range slices.Concat([]uint32{1, 5, 6, 10, last}, wrong) {
			sets(t, table, player, state, 6, 7, api.ErrMissing)
		}
	}
	has(t, table, m)
}

func TestWhoHasNoSeat(t *testing.T) {
	a, b := of(5, row(1, 7, 8), row(2, 9)), of(6, row(2, 1))
	table := with(2, a, b)
	for _, player := range slices.Concat([]uint32{2, 3, 5, 6, 10, last}, wrong) {
		for state := 1; state <= 3; state++ {
			sets(t, table, player, state, 6, 7, api.ErrMissing)
		}
		loses(t, table, player, 0, 0, api.ErrMissing)
	}
	has(t, table, a, b)
}

// Whoever is lost stands in no row, and has no seat; a row without players is there no more, wherever it stood.
func TestLose(t *testing.T) {
	other := set(of(6, row(2, 2), row(1, 1)), 1, 3, 4, 5)
	for _, rows := range [][]fill.Row{{row(1, 7)}, {row(1, 7, 8)}, {row(2, 9), row(1, 7), row(2, 8)}, {row(1, 9, 7, 8), row(2, 5)}, {row(2, 4, 3, 11, 12), row(1, 5, 7, 9, 8)}, {row(1, 7), row(1, 8), row(1, 9), row(1, 5)}} {
		m := of(5, rows...)
		for gone, s := range m.Seats {
			table := with(2, m, other)
			want := m
			want.Seats, want.Rows = slices.Concat(m.Seats[:gone], m.Seats[gone+1:]), nil
			for _, r := range rows {
				r.Players = slices.DeleteFunc(slices.Clone(r.Players), func(player uint32) bool { return player == s.Player })
				if len(r.Players) > 0 {
					want.Rows = append(want.Rows, r)
				}
			}
			loses(t, table, s.Player, 5, len(m.Seats)-1, api.OK)
			has(t, table, want, other)
			loses(t, table, s.Player, 0, 0, api.ErrMissing)
			sets(t, table, s.Player, 2, 0, 0, api.ErrMissing)
			has(t, table, want, other)
		}
	}
}

// One by one all are lost; the match is there till it ends, and others may sit down in it.
func TestLoseAll(t *testing.T) {
	players := []uint32{7, 3, 9, 5, 8}
	for _, order := range [][]int{{0, 1, 2, 3, 4}, {4, 3, 2, 1, 0}, {2, 4, 0, 3, 1}} {
		table := with(1, of(5, row(1, 7, 3), row(2, 9), row(2, 5, 8)))
		for i, place := range order {
			loses(t, table, players[place], 5, 4-i, api.OK)
		}
		has(t, table, seat.Match{Id: 5, Mode: 1, Instance: 3})
		adds(t, table, 5, api.ErrSize)
		makes(t, table, 5, api.ErrExists, row(1, 7))
		adds(t, table, 5, api.OK, row(2, 9, 1), row(1, 7))
		has(t, table, of(5, row(2, 9, 1), row(1, 7)))
	}
}

// Whoever has lost a seat may have another one, of that match or of another one, which is a new one.
func TestANewSeatIsANewOne(t *testing.T) {
	table := with(2, set(of(5, row(1, 7, 8)), 7, 3, 9, 4))
	loses(t, table, 7, 5, 1, api.OK)
	adds(t, table, 5, api.OK, row(2, 7))
	has(t, table, seat.Match{Id: 5, Mode: 1, Instance: 3, Rows: []fill.Row{row(1, 8), row(2, 7)}, Seats: []seat.Seat{{Player: 7, Team: 2, Number: 0, State: 1}, {Player: 8, Team: 1, Number: 1, State: 1}}})
	loses(t, table, 7, 5, 1, api.OK)
	makes(t, table, 6, api.OK, row(2, 9), row(1, 7))
	sets(t, table, 7, 2, 0, 0, api.OK)
	has(t, table, seat.Match{Id: 5, Mode: 1, Instance: 3, Rows: []fill.Row{row(1, 8)}, Seats: []seat.Seat{{Player: 8, Team: 1, Number: 1, State: 1}}}, set(of(6, row(2, 9), row(1, 7)), 7, 2, 0, 0))
}

func TestEnd(t *testing.T) {
	a, b := set(set(of(5, row(1, 7, 8), row(2, 9)), 7, 2, 0, 0), 9, 3, 8, 6), of(6, row(2, 1))
	table := with(2, a, b)
	for _, id := range slices.Concat([]uint32{1, 4, 7, 8, 9, last}, wrong) {
		ends(t, table, id, seat.Match{}, false)
	}
	has(t, table, a, b)
	ends(t, table, 5, a, true)
	ends(t, table, 5, seat.Match{}, false)
	has(t, table, b)
	adds(t, table, 5, api.ErrMissing, row(1, 7))
	loses(t, table, 7, 0, 0, api.ErrMissing)
	makes(t, table, 5, api.OK, row(1, 9, 7))
	has(t, table, of(5, row(1, 9, 7)), b)
	ends(t, table, 6, b, true)
	ends(t, table, 5, of(5, row(1, 9, 7)), true)
	has(t, table)
}

// P22.3

func TestIdsRise(t *testing.T) {
	x := rand.New(rand.NewSource(3))
	const many = 200
	table := seat.New(many)
	var want []uint32
	for i := range uint32(many) {
		want = append(want, 3*i+1)
	}
	for _, i := range x.Perm(many) {
		makes(t, table, want[i], api.OK, row(2, 2000+want[i]), row(1, 1000+want[i]))
	}
	for _, i := range x.Perm(many)[:many/2] {
		gone := uint32(3*i + 1)
		ends(t, table, gone, of(gone, row(2, 2000+gone), row(1, 1000+gone)), true)
		want = slices.DeleteFunc(want, func(id uint32) bool { return id == gone })
	}
	var matches []seat.Match
	for _, id := range want {
		matches = append(matches, of(id, row(2, 2000+id), row(1, 1000+id)))
	}
	has(t, table, matches...)
}

// A team's players stand in the seats' order; of a match that no table made, whatever it has.
func TestTeam(t *testing.T) {
	m := of(5, row(2, 9), row(1, 8, 3), row(2, 4, 7), row(1, 5))
	odd := seat.Match{Rows: []fill.Row{row(1, 7)}}
	for i, team := range numbers {
		odd.Seats = append(odd.Seats, seat.Seat{Player: uint32(99 - i), Team: team}, seat.Seat{Player: 0, Team: 2, Number: -1, State: 8})
	}
	odd.Seats = append(odd.Seats, seat.Seat{Player: math.MaxUint32, Team: 1}, seat.Seat{Player: 7, Team: 1})
	for i, team := range numbers {
		want, wantOdd := []uint32(nil), []uint32{uint32(99 - i)}
		switch team {
		case 1:
			want, wantOdd = []uint32{8, 3, 5}, append(wantOdd, math.MaxUint32, 7)
		case 2:
			want, wantOdd = []uint32{9, 4, 7}, append(make([]uint32, i), wantOdd...)
			wantOdd = append(wantOdd, make([]uint32, len(numbers)-i)...)
		}
		if got := m.Team(team); !slices.Equal(got, want) {
			t.Errorf("the team %d: %v, not %v", team, got, want)
		}
		if got := odd.Team(team); !slices.Equal(got, wantOdd) {
			t.Errorf("the team %d: %v, not %v", team, got, wantOdd)
		}
		if got := (seat.Match{Rows: []fill.Row{row(1, 7), row(2, 8)}}).Team(team); len(got) != 0 {
			t.Errorf("of no seats the team %d is %v", team, got)
		}
	}
}

// By their numbers, not by when they sat down, and not by the rows.
func TestTeamOfNewSeats(t *testing.T) {
	table := with(1, of(5, row(1, 7, 8), row(2, 9)))
	table.Lose(7)
	table.Add(5, row(1, 6, 4))
	m, _ := table.Match(5)
	if one, two := m.Team(1), m.Team(2); !slices.Equal(one, []uint32{6, 8, 4}) || !slices.Equal(two, []uint32{9}) {
		t.Errorf("%v and %v", one, two)
	}
}

func TestNilTable(t *testing.T) {
	var table *seat.Table
	for _, id := range slices.Concat(ids, wrong) {
		// Whatever else is wrong.
		for _, rows := range slices.Concat(wrongSizes(), noIds(0), [][]fill.Row{{row(1, 7)}, {row(1, 7, 7)}}) {
			makes(t, table, id, api.ErrFull, rows...)
			adds(t, table, id, api.ErrMissing, rows...)
		}
		for _, state := range numbers {
			sets(t, table, id, state, 7, 8, api.ErrMissing)
		}
		loses(t, table, id, 0, 0, api.ErrMissing)
		ends(t, table, id, seat.Match{}, false)
	}
	has(t, table)
}

// P22.4

// step is something that is done: to a match of an id, or to a player's seat.
type step struct {
	what  string
	id    uint32
	rows  []fill.Row
	state int
	until int64
	nonce uint64
}

// answer is what is answered to a step; what a call does not answer is nothing.
type answer struct {
	m    seat.Match
	is   bool
	id   uint32
	left int
	e    api.Errno
}

// do does a step.
func (s step) do(t *seat.Table) answer {
	var a answer
	switch s.what {
	case "make":
		a.e = t.Make(s.id, s.state, uint32(s.nonce), s.rows...)
	case "add":
		a.e = t.Add(s.id, s.rows...)
	case "set":
		a.e = t.Set(s.id, s.state, s.until, s.nonce)
	case "lose":
		a.id, a.left, a.e = t.Lose(s.id)
	case "end":
		a.m, a.is = t.End(s.id)
	}
	return a
}

// model is what the chapter says of a table, by a list of matches alone.
type model struct {
	most    int
	matches []seat.Match
}

// find is the place of a match, or -1.
func (m *model) find(id uint32) int {
	return slices.IndexFunc(m.matches, func(x seat.Match) bool { return x.Id == id })
}

// sits is the place of the match in which a player has a seat, and the seat's place, or -1.
func (m *model) sits(player uint32) (int, int) {
	for place, x := range m.matches {
		for i, s := range x.Seats {
			if s.Player == player {
				return place, i
			}
		}
	}
	return -1, -1
}

// wrong is for what rows may not sit down beside some, or OK.
func (m *model) wrong(old, rows []fill.Row) api.Errno {
	var players []uint32
	size, teams := len(rows) == 0, map[int]int{}
	for _, r := range old {
		teams[r.Team] += len(r.Players)
	}
	for _, r := range rows {
		teams[r.Team] += len(r.Players)
		size = size || r.Team < 1 || r.Team > 2 || len(r.Players) < 1 || len(r.Players) > 4
		players = append(players, r.Players...)
	}
	twice := false
	for i, player := range players {
		if player < 1 || player > last {
			return api.ErrId
		}
		place, _ := m.sits(player)
		twice = twice || place >= 0 || slices.Contains(players[:i], player)
	}
	switch {
	case size || teams[1] > 4 || teams[2] > 4:
		return api.ErrSize
	case twice:
		return api.ErrExists
	}
	return api.OK
}

// down is a match in which rows sit down.
func down(x seat.Match, rows []fill.Row) seat.Match {
	x.Rows, x.Seats = slices.Concat(x.Rows, rows), slices.Clone(x.Seats)
	for _, r := range rows {
		for _, player := range r.Players {
			number := 0
			for slices.ContainsFunc(x.Seats, func(s seat.Seat) bool { return s.Number == number }) {
				number++
			}
			x.Seats = append(x.Seats, seat.Seat{Player: player, Team: r.Team, Number: number, State: 1})
		}
	}
	slices.SortFunc(x.Seats, func(a, b seat.Seat) int { return a.Number - b.Number })
	return x
}

// lose takes a player away.
func (m *model) lose(player uint32) answer {
	place, i := m.sits(player)
	if place < 0 {
		return answer{e: api.ErrMissing}
	}
	x := m.matches[place]
	x.Seats = slices.Concat(x.Seats[:i], x.Seats[i+1:])
	var rows []fill.Row
	for _, r := range x.Rows {
		var players []uint32
		for _, other := range r.Players {
			if other != player {
				players = append(players, other)
			}
		}
		if r.Players = players; len(players) > 0 {
			rows = append(rows, r)
		}
	}
	x.Rows = rows
	m.matches[place] = x
	return answer{id: x.Id, left: len(x.Seats)}
}

// do does a step in the model, and is what shall be answered.
func (m *model) do(s step) answer {
	place := m.find(s.id)
	switch s.what {
	case "make":
		e := m.wrong(nil, s.rows)
		switch {
		case s.id < 1 || s.id > last || e == api.ErrId:
			return answer{e: api.ErrId}
		case e != api.OK:
			return answer{e: e}
		case place >= 0:
			return answer{e: api.ErrExists}
		case len(m.matches) >= m.most:
			return answer{e: api.ErrFull}
		}
		m.matches = append(m.matches, down(seat.Match{Id: s.id, Mode: s.state, Instance: uint32(s.nonce)}, s.rows))
		slices.SortFunc(m.matches, func(a, b seat.Match) int { return int(a.Id) - int(b.Id) })
		return answer{}
	case "add":
		if place < 0 {
			return answer{e: api.ErrMissing}
		}
		if e := m.wrong(m.matches[place].Rows, s.rows); e != api.OK {
			return answer{e: e}
		}
		m.matches[place] = down(m.matches[place], s.rows)
		return answer{}
	case "set":
		place, i := m.sits(s.id)
		switch {
		case place < 0:
			return answer{e: api.ErrMissing}
		case s.state < 1 || s.state > 3:
			return answer{e: api.ErrRange}
		}
		m.matches[place] = set(m.matches[place], m.matches[place].Seats[i].Player, s.state, s.until, s.nonce)
		return answer{}
	case "lose":
		return m.lose(s.id)
	}
	if place < 0 {
		return answer{}
	}
	x := m.matches[place]
	m.matches = slices.Concat(m.matches[:place], m.matches[place+1:])
	return answer{m: x, is: true}
}

// try does a step in both, and fails unless both answer the same, and are the same.
func (m *model) try(t *testing.T, table *seat.Table, s step) answer {
	t.Helper()
	got, want := s.do(table), m.do(s)
	if !same(got.m, want.m) || got.is != want.is || got.id != want.id || got.left != want.left || got.e != want.e || !holds(table, m.matches...) {
		t.Fatalf("%v: %v, not %v; %v, not %v", s, got, want, all(table), m.matches)
	}
	return got
}

// Each player has one seat at most, and the seats' players are just the rows'.
func legal(t *testing.T, table *seat.Table) {
	t.Helper()
	var everybody []uint32
	for _, m := range all(table) {
		var seats, rows []uint32
		for i, s := range m.Seats {
			seats = append(seats, s.Player)
			if i > 0 && s.Number <= m.Seats[i-1].Number || s.Number < 0 || s.Number > 7 {
				t.Fatalf("the seats do not stand by their numbers: %v", m)
			}
		}
		for _, r := range m.Rows {
			rows = append(rows, r.Players...)
		}
		slices.Sort(seats)
		slices.Sort(rows)
		if !slices.Equal(seats, rows) || len(m.Team(1)) > 4 || len(m.Team(2)) > 4 || len(m.Team(1))+len(m.Team(2)) != len(seats) {
			t.Fatalf("the seats are not the rows': %v", m)
		}
		everybody = append(everybody, seats...)
	}
	slices.Sort(everybody)
	if len(slices.Compact(slices.Clone(everybody))) != len(everybody) {
		t.Fatalf("a player has two seats: %v", all(table))
	}
}

// Whatever is done with a few players and matches, up to five things, one behind the other.
func TestAllThatAFewDo(t *testing.T) {
	some := []step{
		{what: "make", id: 1, rows: []fill.Row{row(1, 1, 2), row(2, 3)}, state: 4, nonce: 5}, {what: "make", id: 2, rows: []fill.Row{row(2, 3), row(2, 4)}}, {what: "add", id: 1, rows: []fill.Row{row(2, 4, 5)}}, {what: "add", id: 2, rows: []fill.Row{row(1, 1)}},
		{what: "set", id: 1, state: 2, until: 6, nonce: 7}, {what: "lose", id: 1}, {what: "lose", id: 3}, {what: "end", id: 1}, {what: "end", id: 2},
	}
	ways := len(some) * len(some) * len(some) * len(some) * len(some)
	for way := range ways {
		m, table := &model{most: 1 + way%2}, seat.New(1+way%2)
		for range 5 {
			m.try(t, table, some[way%len(some)])
			way /= len(some)
		}
		legal(t, table)
	}
}

// someRows are rows by chance.
func someRows(r *rand.Rand, many int) []fill.Row {
	var rows []fill.Row
	for range 1 + r.Intn(3) {
		x := fill.Row{Team: 1 + r.Intn(2), Rating: r.Intn(10001), Window: numbers[r.Intn(len(numbers))]}
		for range 1 + r.Intn(2) {
			x.Players = append(x.Players, uint32(1+r.Intn(many)))
		}
		rows = append(rows, x)
	}
	switch r.Intn(40) {
	case 0:
		rows[0].Players[0] = wrong[r.Intn(len(wrong))]
	case 1:
		rows[len(rows)-1].Team = numbers[r.Intn(len(numbers))]
	case 2:
		rows[0].Players = run(uint32(1+r.Intn(many)), r.Intn(7))
	case 3:
		rows = nil
	}
	return rows
}

// chance is a step by chance.
func chance(r *rand.Rand, most, many int) step {
	s := step{id: uint32(1 + r.Intn(most+2)), state: r.Intn(3) + 1, until: times[r.Intn(len(times))], nonce: nonces[r.Intn(len(nonces))]}
	if r.Intn(60) == 0 {
		s.id = wrong[r.Intn(len(wrong))]
	}
	switch r.Intn(10) {
	case 0, 1:
		s.what, s.rows = "make", someRows(r, many)
		return s
	case 2, 3, 4:
		s.what, s.rows = "add", someRows(r, many)
		return s
	case 5:
		s.what = "end"
		if r.Intn(3) > 0 {
			s.what, s.id = "lose", uint32(1+r.Intn(many))
		}
		return s
	case 6, 7:
		s.what, s.id = "lose", uint32(1+r.Intn(many))
		return s
	}
	s.what, s.id = "set", uint32(1+r.Intn(many))
	if r.Intn(9) == 0 {
		s.state = numbers[r.Intn(len(numbers))]
	}
	return s
}

func TestAsTheModelIs(t *testing.T) {
	for _, c := range []struct{ most, many int }{{0, 3}, {1, 6}, {2, 12}, {4, 30}, {16, 64}} {
		x := rand.New(rand.NewSource(int64(c.most*100 + c.many)))
		m, table := &model{most: c.most}, seat.New(c.most)
		crowded, emptied, gaps, errors := 0, 0, 0, [28]int{}
		for range 8000 {
			s := chance(x, c.most, c.many)
			a := m.try(t, table, s)
			legal(t, table)
			errors[a.e]++
			if s.what == "lose" && a.e == api.OK && a.left == 0 {
				emptied++
			}
			for _, match := range m.matches {
				crowded = max(crowded, len(match.Seats))
				if len(match.Seats) > 0 && match.Seats[len(match.Seats)-1].Number >= len(match.Seats) {
					gaps++
				}
			}
		}
		if c.most > 0 && (crowded < 5 || emptied < 20 || gaps < 100 || min(errors[api.ErrId], errors[api.ErrSize], errors[api.ErrExists], errors[api.ErrMissing], errors[api.ErrRange]) < 10) {
			t.Errorf("of %d the greatest had %d seats, %d were emptied, %d had gaps; errors %v", c.most, crowded, emptied, gaps, errors)
		}
	}
}

// The table's ways: the calls of the rack that is embedded in it are its own, but for those that it has itself.

func TestTheRacksCallsAreTheTables(t *testing.T) {
	table := with(4, of(1, row(1, 1, 2)), of(2, row(2, 9)), of(3, row(1, 5), row(2, 6)))
	table.End(2)
	next, is := table.Next(1)
	if table.Len() != 2 || table.Most() != 4 || table.Free() != 2 || next != 3 || !is || !slices.Equal(table.Ids(), table.Rack.Ids()) {
		t.Errorf("%d of %d, free %d, behind 1 stands %d", table.Len(), table.Most(), table.Free(), next)
	}
	// What is dropped so is there no more, whoever sat in it.
	if _, was := table.Drop(1); !was {
		t.Error("1 was not there")
	}
	has(t, table, of(3, row(1, 5), row(2, 6)))
}

// What the rack hands out stays as it was, whatever becomes of the match.
func TestWhatTheRackHandsOutStays(t *testing.T) {
	was := set(of(1, row(1, 1, 2), row(2, 3)), 2, 3, 4, 5)
	for _, s := range []step{
		{what: "set", id: 1, state: 2, until: 6, nonce: 7}, {what: "set", id: 2, state: 2}, {what: "lose", id: 1}, {what: "lose", id: 2}, {what: "lose", id: 3},
		{what: "add", id: 1, rows: []fill.Row{row(2, 8, 9)}}, {what: "add", id: 1, rows: []fill.Row{row(2, 8), row(1, 9)}}, {what: "end", id: 1},
	} {
		table := with(2, was)
		kept, _ := table.Get(1)
		if a := s.do(table); a.e != api.OK {
			t.Errorf("%v: %v", s, a)
		}
		table.Put(1, kept)
		has(t, table, was)
		// Nor does what comes behind the one show in the other one.
		table.Lose(1)
		more, _ := table.Get(1)
		s.do(table)
		table.Add(1, row(2, 21), row(1, 22))
		table.Set(3, 3, 3, 3)
		table.Put(1, more)
		table.Add(1, row(1, 11))
		has(t, table, seat.Match{Id: 1, Mode: 1, Instance: 3, Rows: []fill.Row{row(1, 2), row(2, 3), row(1, 11)}, Seats: []seat.Seat{
			{Player: 11, Team: 1, Number: 0, State: 1}, {Player: 2, Team: 1, Number: 1, State: 3, Until: 4, Nonce: 5}, {Player: 3, Team: 2, Number: 2, State: 1},
		}})
	}
}

// The rules R2, R4 and R6, and what is kept

// What is refused changes nothing.
func TestAnErrorChangesNothing(t *testing.T) {
	before := []seat.Match{set(of(2, row(1, 1, 2), row(2, 3)), 2, 3, 8, 7), of(5, row(2, 9, 4, 6))}
	table := with(2, before...)
	steps := []step{
		{what: "make", id: 9, rows: []fill.Row{row(1, 11)}}, {what: "set", id: 1, state: 0}, {what: "set", id: 2, state: 4, until: 1, nonce: 2}, {what: "set", id: 11, state: 2}, {what: "set"},
		{what: "lose", id: 5}, {what: "lose"}, {what: "lose", id: 1 << 31}, {what: "end"}, {what: "end", id: 1}, {what: "end", id: 1 << 31}, {what: "add", id: 1, rows: []fill.Row{row(1, 11)}},
	}
	for _, rows := range slices.Concat(wrongSizes(), seated(), noIds(1<<31), [][]fill.Row{{row(2, 11, 12), row(2, 13)}, {row(1, 11), row(1, 12, 13, 14), row(2, 9)}}) {
		for _, id := range []uint32{0, 2, 5, 7} {
			steps = append(steps, step{what: "make", id: id, rows: rows})
		}
		steps = append(steps, step{what: "add", id: 5, rows: rows}, step{what: "add", id: 7, rows: rows})
	}
	for _, s := range steps {
		a := s.do(table)
		if a.e == api.OK && s.what != "end" || a.is || a.id != 0 || a.left != 0 || !same(a.m, seat.Match{}) || !holds(table, before...) {
			t.Errorf("%v: %v, %v", s, a, all(table))
		}
	}
}

// blotIds writes into a list, and as far behind it as its memory goes.
func blotIds(l []uint32) {
	l = l[:cap(l)]
	for i := range l {
		l[i] = 99
	}
}

// blotRows writes so into rows, and into their lists.
func blotRows(rows []fill.Row) {
	rows = rows[:cap(rows)]
	for i := range rows {
		blotIds(rows[i].Players)
		rows[i] = row(2, 99)
	}
}

// blotSeats writes so into seats.
func blotSeats(seats []seat.Seat) {
	seats = seats[:cap(seats)]
	for i := range seats {
		seats[i] = seat.Seat{Player: 99, Team: 2, Number: 99, State: 3, Until: 99, Nonce: 99}
	}
}

func TestWhatIsHandedInIsNotKept(t *testing.T) {
	table := seat.New(1)
	give := func() []fill.Row {
		rows := append(make([]fill.Row, 0, 4), row(1, append(make([]uint32, 0, 8), 5, 3)...), row(2, 9))
		rows[0].Players = rows[0].Players[:2:8]
		return rows
	}
	rows := give()
	makes(t, table, 4, api.OK, rows...)
	if !slices.EqualFunc(rows, give(), sameRow) || !slices.Equal(rows[0].Players[:8], []uint32{5, 3, 0, 0, 0, 0, 0, 0}) {
		t.Errorf("%v", rows)
	}
	blotRows(rows)
	has(t, table, of(4, row(1, 5, 3), row(2, 9)))
	rows = append(make([]fill.Row, 0, 4), row(1, 7), row(2, 8, 6))
	adds(t, table, 4, api.OK, rows...)
	if !slices.EqualFunc(rows, []fill.Row{row(1, 7), row(2, 8, 6)}, sameRow) {
		t.Errorf("%v", rows)
	}
	blotRows(rows)
	has(t, table, of(4, row(1, 5, 3), row(2, 9), row(1, 7), row(2, 8, 6)))
	loses(t, table, 5, 4, 5, api.OK)
}

// Rows may share their memory, where they are handed in.
func TestRowsThatShareMemory(t *testing.T) {
	players := []uint32{1, 2, 3, 4, 5}
	rows := []fill.Row{row(1, players[:2]...), row(2, players[2:4]...), row(1, players[4:]...)}
	rows[0].Players = players[:2]
	table := seat.New(1)
	makes(t, table, 4, api.OK, rows...)
	loses(t, table, 1, 4, 4, api.OK)
	loses(t, table, 3, 4, 3, api.OK)
	if !slices.Equal(players, []uint32{1, 2, 3, 4, 5}) {
		t.Errorf("%v", players)
	}
	want := of(4, row(1, 2), row(2, 4), row(1, 5))
	for i := range want.Seats {
		want.Seats[i].Number = []int{1, 3, 4}[i]
	}
	has(t, table, want)
}

// answered are all matches that a table answers behind one another.
func answered(table *seat.Table) []seat.Match {
	a, _ := table.Match(4)
	b, _ := table.Match(4)
	table.Set(5, 2, 3, 4)
	c, _ := table.Match(4)
	table.Lose(9)
	d, _ := table.Match(4)
	table.Add(4, row(2, 7, 1))
	e, _ := table.Match(4)
	f, _ := table.End(4)
	return []seat.Match{a, b, c, d, e, f}
}

func TestAnswersAreTheirOwn(t *testing.T) {
	first := of(4, row(1, 5, 3), row(2, 9), row(1, 6, 8))
	want := answered(with(1, first))
	if !same(want[0], first) || !same(want[5], seat.Match{Id: 4, Mode: 1, Instance: 3, Rows: []fill.Row{row(1, 5, 3), row(1, 6, 8), row(2, 7, 1)}, Seats: []seat.Seat{
		{Player: 5, Team: 1, Number: 0, State: 2, Until: 3, Nonce: 4}, {Player: 3, Team: 1, Number: 1, State: 1}, {Player: 7, Team: 2, Number: 2, State: 1},
		{Player: 6, Team: 1, Number: 3, State: 1}, {Player: 8, Team: 1, Number: 4, State: 1}, {Player: 1, Team: 2, Number: 5, State: 1},
	}}) {
		t.Fatalf("%v", want)
	}
	for spoilt := range want {
		l := answered(with(1, first))
		x := l[spoilt]
		// No two lists of one answer share any.
		for i := range x.Rows {
			players := slices.Clone(x.Rows[i].Players)
			blotIds(append(x.Rows[i].Players, 98))
			blotIds(x.Rows[i].Players)
			for j := range x.Rows {
				if j != i && !slices.Equal(x.Rows[j].Players, want[spoilt].Rows[j].Players) {
					t.Errorf("the rows %d and %d of %v share", i, j, x)
				}
			}
			copy(x.Rows[i].Players, players)
		}
		if team := x.Team(1); !slices.Equal(team, want[spoilt].Team(1)) {
			t.Errorf("%v", team)
		}
		blotIds(x.Team(1))
		blotSeats(append(x.Seats, seat.Seat{}))
		blotRows(append(x.Rows, fill.Row{}))
		blotRows(x.Rows)
		if !slices.Equal(x.Seats, want[spoilt].Seats) {
			t.Errorf("%v", x)
		}
		blotSeats(x.Seats)
		for i := range want {
			if i != spoilt && !same(l[i], want[i]) {
				t.Errorf("%v, not %v", l[i], want[i])
			}
		}
	}
}

// What is written into an answer does not show in the table.
func TestAnswersAreNotTheTables(t *testing.T) {
	want := []seat.Match{of(2, row(2, 7)), set(of(4, row(1, 5, 3), row(2, 9), row(1, 6, 8)), 9, 3, 4, 5)}
	table := with(3, want...)
	for _, id := range []uint32{2, 4} {
		m, _ := table.Match(id)
		blotRows(append(m.Rows, fill.Row{}))
		blotRows(m.Rows)
		blotSeats(append(m.Seats, seat.Seat{}))
		blotSeats(m.Seats)
		has(t, table, want...)
		adds(t, table, id, api.OK, row(2, 10+id))
		want[id/2-1] = down(want[id/2-1], []fill.Row{row(2, 10+id)})
		has(t, table, want...)
	}
	blotIds(table.Ids())
	s, _ := table.Seat(9)
	s.State, s.Number = 1, 8
	has(t, table, want...)
}

func TestTeamChangesNothing(t *testing.T) {
	m := of(5, row(2, 9), row(1, 8, 3), row(2, 4, 7))
	a, b := m.Team(1), m.Team(2)
	blotIds(append(a, 1))
	blotIds(a)
	if !same(m, of(5, row(2, 9), row(1, 8, 3), row(2, 4, 7))) || !slices.Equal(b, []uint32{9, 4, 7}) || !slices.Equal(m.Team(1), []uint32{8, 3}) {
		t.Errorf("%v, %v", m, b)
	}
}

func TestTablesShareNothing(t *testing.T) {
	a, b := seat.New(2), seat.New(2)
	rows := []fill.Row{row(1, 7, 8), row(2, 9)}
	makes(t, a, 1, api.OK, rows...)
	has(t, b)
	makes(t, b, 1, api.OK, rows...)
	sets(t, a, 7, 2, 3, 4, api.OK)
	loses(t, b, 8, 1, 2, api.OK)
	adds(t, a, 1, api.OK, row(2, 5))
	has(t, a, set(of(1, row(1, 7, 8), row(2, 9), row(2, 5)), 7, 2, 3, 4))
	has(t, b, seat.Match{Id: 1, Mode: 1, Instance: 3, Rows: []fill.Row{row(1, 7), row(2, 9)}, Seats: []seat.Seat{{Player: 7, Team: 1, Number: 0, State: 1}, {Player: 9, Team: 2, Number: 2, State: 1}}})
	ends(t, b, 1, all(b)[0], true)
	has(t, a, set(of(1, row(1, 7, 8), row(2, 9), row(2, 5)), 7, 2, 3, 4))
}

// Seats can be compared.
func TestSeatsCompare(t *testing.T) {
	a := seat.Seat{Player: 1, Team: 2, Number: 3, State: 1, Until: 4, Nonce: 5}
	if b := a; a != b || a == (seat.Seat{}) {
		t.Error("the same seats are not the same")
	}
}

func TestToAskChangesNothing(t *testing.T) {
	want := []seat.Match{set(of(4, row(1, 5, 3)), 3, 2, 1, 0), of(6, row(2, 7, 8))}
	table := with(4, want...)
	for range 5 {
		has(t, table, want...)
	}
}

// inUse is how much memory is in use.
func inUse() int64 {
	runtime.GC()
	var m runtime.MemStats
	runtime.ReadMemStats(&m)
	return int64(m.HeapAlloc)
}

func TestWhatIsOverIsNotKept(t *testing.T) {
	stays := of(1, row(1, last-1, last-2))
	table := with(3, stays, of(2, row(1, last)))
	before := inUse()
	for i := uint32(3); i < 60000; i++ {
		table.Make(i, 1, 3, row(1, i, i+100000), row(2, i+200000))
		table.Set(i, 2, 3, uint64(i))
		table.Lose(i)
		table.Add(i, row(2, i+300000))
		table.End(i)
		table.Add(2, row(2, i))
		table.Lose(i)
		if len(table.Ids()) != 2 {
			t.Fatalf("%d: %v", i, all(table))
		}
	}
	if more := inUse() - before; more > 1<<18 {
		t.Errorf("%d bytes of memory", more)
	}
	has(t, table, stays, of(2, row(1, last)))
}

// Rows of any number are told in no time.
func TestManyRowsAreNotLong(t *testing.T) {
	table := with(2, of(1, row(1, 7)))
	rows := ones(2, run(1000, 300000)...)
	makes(t, table, 2, api.ErrSize, rows...)
	adds(t, table, 1, api.ErrSize, rows...)
	makes(t, table, 2, api.ErrSize, row(1, run(1000, 300000)...))
	has(t, table, of(1, row(1, 7)))
}
