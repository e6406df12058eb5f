package elo_test

import (
	"math"
	"math/rand"
	"slices"
	"testing"

	"tiltyard/api"
	"tiltyard/elo"
)

// whats are what is expected of the greater of two ratings, by how many whole fifties it is greater.
var whats = []int{500, 571, 640, 703, 760, 808, 849, 882, 909, 930, 947, 960, 969, 977, 983, 987, 990}

// great are numbers at the edges of their type, below and above all ratings.
var (
	below = []int{math.MinInt, math.MinInt + 1, -1 << 31, -10001, -50, -1}
	above = []int{10001, 10050, 20000, 1<<31 - 1, math.MaxInt - 1, math.MaxInt}
)

// scores are those of the results 0, 1 and 2; no other one is a result.
var (
	scores = []int{500, 1000, 0}
	none   = []int{math.MinInt, -1 << 31, -2, -1, 3, 4, 256, 257, 258, 1<<31 - 1, math.MaxInt}
)

// teams are some that may be, of each size, and at the ratings' edges.
var teams = [][]int{
	{0}, {10000}, {1500}, {1}, {9999},
	{0, 0}, {10, 0}, {1500, 1501}, {10000, 9990}, {3000, 2},
	{1500, 1500, 1500}, {0, 5000, 10000}, {2, 1, 0},
	{1500, 1400, 1600, 1501}, {0, 0, 0, 1}, {10000, 9999, 9998, 9997}, {0, 10000, 0, 10000},
}

// is fails unless two numbers are one.
func is(t *testing.T, what string, got, want int) {
	t.Helper()
	if got != want {
		t.Errorf("%s: %d, not %d", what, got, want)
	}
}

// P15.1

func TestTheExamples(t *testing.T) {
	is(t, "expected", elo.Expected(1600, 1500), 640)
	is(t, "expected", elo.Expected(1500, 1600), 360)
	updates(t, []int{1500}, []int{1500}, 1, []int{1516}, []int{1484})
	for place, want := range []int{-3, -2, -2} {
		is(t, "share", elo.Share(-7, 3, place), want)
	}
}

func TestExpected(t *testing.T) {
	for _, lesser := range []int{0, 1, 49, 1500, 5000, 8999, 9200, 9950, 9999, 10000} {
		for greater := lesser; greater <= 10000; greater++ {
			want := whats[min((greater-lesser)/50, 16)]
			if got := elo.Expected(greater, lesser); got != want {
				t.Fatalf("of %d against %d: %d, not %d", greater, lesser, got, want)
			}
			// Of two that are alike it is the greater one's both ways.
			if got := elo.Expected(lesser, greater); greater > lesser && got != 1000-want {
				t.Fatalf("of %d against %d: %d, not %d", lesser, greater, got, 1000-want)
			}
		}
	}
}

func TestExpectedAtTheRowsEdges(t *testing.T) {
	for _, c := range [][3]int{
		{1500, 1500, 500}, {1549, 1500, 500}, {1550, 1500, 571}, {1599, 1500, 571}, {1600, 1500, 640},
		{1500, 1549, 500}, {1500, 1550, 429}, {799, 0, 987}, {800, 0, 990}, {849, 0, 990}, {850, 0, 990}, {10000, 0, 990},
		{0, 799, 13}, {0, 800, 10}, {0, 10000, 10}, {0, 0, 500}, {10000, 10000, 500},
	} {
		is(t, "expected", elo.Expected(c[0], c[1]), c[2])
	}
}

func TestExpectedOfWhatIsNoRating(t *testing.T) {
	for _, low := range append(below, 0) {
		for _, high := range append(above, 10000) {
			is(t, "expected", elo.Expected(low, high), 10)
			is(t, "expected", elo.Expected(high, low), 990)
			for r := 0; r <= 10000; r += 10 {
				is(t, "expected", elo.Expected(low, r), elo.Expected(0, r))
				is(t, "expected", elo.Expected(r, high), elo.Expected(r, 10000))
				is(t, "expected", elo.Expected(r, low), elo.Expected(r, 0))
				is(t, "expected", elo.Expected(high, r), elo.Expected(10000, r))
			}
		}
	}
	for _, all := range [][]int{below, above} {
		for _, a := range all {
			for _, b := range all {
				is(t, "expected", elo.Expected(a, b), 500)
			}
		}
	}
}

func TestMean(t *testing.T) {
	for _, c := range []struct {
		ratings []int
		want    int
	}{
		{nil, 0},
		{[]int{}, 0},
		{[]int{0}, 0},
		{[]int{10000}, 10000},
		{[]int{1500}, 1500},
		{[]int{1500, 1501}, 1500},
		{[]int{1501, 1500, 1501}, 1500},
		{[]int{0, 0, 1}, 0},
		{[]int{0, 1, 1}, 0},
		{[]int{1, 1, 1}, 1},
		{[]int{1, 2, 3, 4, 5, 6, 7}, 4},
		{[]int{9999, 10000, 10000, 10000}, 9999},
		{[]int{0, 10000, 0, 10000, 0}, 4000},
		// What is no rating counts as the nearest one, each for itself.
		{[]int{-5, 20000}, 5000},
		{[]int{-1}, 0},
		{[]int{10001}, 10000},
		{[]int{-100, 100}, 50},
		{[]int{10100, 9900}, 9950},
		{below, 0},
		{above, 10000},
		{slices.Concat(below, above), 5000},
	} {
		before := slices.Clone(c.ratings)
		if got := elo.Mean(c.ratings...); got != c.want || !slices.Equal(c.ratings, before) {
			t.Errorf("of %v: %d, not %d", before, got, c.want)
		}
	}
}

func TestMeanOfMany(t *testing.T) {
	many := make([]int, 500000)
	for i := range many {
		many[i] = 10000 - i%2
	}
	is(t, "mean", elo.Mean(many...), 9999)
	for i := range many {
		many[i] = math.MaxInt
	}
	is(t, "mean", elo.Mean(many...), 10000)
}

func TestStake(t *testing.T) {
	for _, c := range [][5]int{
		{1500, 1500, 1, 1, 16}, {1500, 1500, 1, 2, -16}, {1500, 1500, 1, 0, 0}, {1500, 1500, 2, 1, 32}, {1500, 1500, 4, 2, -64},
		// 32 times 360 is 11520, 32 times 640 is 20480, 32 times 140 is 4480; toward 0.
		{1600, 1500, 1, 1, 11}, {1600, 1500, 1, 2, -20}, {1600, 1500, 1, 0, -4},
		{1500, 1600, 1, 1, 20}, {1500, 1600, 1, 2, -11}, {1500, 1600, 1, 0, 4},
		{1600, 1500, 3, 1, 34}, {1600, 1500, 3, 2, -61}, {1600, 1500, 3, 0, -13},
		// Of the whole it is taken toward 0, not of each player's.
		{10000, 0, 1, 1, 0}, {10000, 0, 2, 1, 0}, {10000, 0, 3, 1, 0}, {10000, 0, 4, 1, 1}, {10000, 0, 4, 2, -126}, {10000, 0, 1, 2, -31},
		{0, 10000, 4, 2, -1}, {0, 10000, 3, 2, 0}, {0, 10000, 4, 1, 126}, {0, 10000, 4, 0, 62},
	} {
		is(t, "stake", elo.Stake(c[0], c[1], c[2], c[3]), c[4])
	}
}

func TestStakeOfAll(t *testing.T) {
	for a := 0; a <= 10000; a += 125 {
		for b := 0; b <= 10000; b += 125 {
			for many := range 5 {
				for result, score := range scores {
					want := 32 * many * (score - elo.Expected(a, b)) / 1000
					if got := elo.Stake(a, b, many, result); got != want {
						t.Fatalf("of %d against %d, %d of them, %d: %d, not %d", a, b, many, result, got, want)
					}
				}
			}
		}
	}
}

func TestStakeOfWhatCanNotBe(t *testing.T) {
	for result := range scores {
		for _, many := range []int{math.MinInt, -1 << 31, -2, -1, 0} {
			is(t, "stake of nobody", elo.Stake(1600, 1500, many, result), 0)
		}
		for _, many := range []int{5, 6, 256, 1<<31 - 1, math.MaxInt} {
			is(t, "stake of many", elo.Stake(1600, 1500, many, result), elo.Stake(1600, 1500, 4, result))
		}
		for _, low := range below {
			for _, high := range above {
				is(t, "stake", elo.Stake(low, high, 4, result), elo.Stake(0, 10000, 4, result))
				is(t, "stake", elo.Stake(high, low, 4, result), elo.Stake(10000, 0, 4, result))
			}
		}
	}
	for _, result := range none {
		for _, many := range []int{math.MinInt, 0, 1, 4, math.MaxInt} {
			is(t, "stake of no result", elo.Stake(1500, 1500, many, result), 0)
			is(t, "stake of no result", elo.Stake(0, 10000, many, result), 0)
		}
	}
}

// shares are what all have of points.
func shares(points, many int) []int {
	var l []int
	for place := range many {
		l = append(l, elo.Share(points, many, place))
	}
	return l
}

func TestShare(t *testing.T) {
	for _, c := range []struct {
		points int
		want   []int
	}{
		{0, []int{0, 0, 0}}, {1, []int{1, 0, 0}}, {2, []int{1, 1, 0}}, {3, []int{1, 1, 1}}, {7, []int{3, 2, 2}}, {8, []int{3, 3, 2}},
		{-1, []int{-1, 0, 0}}, {-2, []int{-1, -1, 0}}, {-3, []int{-1, -1, -1}}, {-7, []int{-3, -2, -2}}, {-8, []int{-3, -3, -2}},
		{16, []int{16}}, {-16, []int{-16}}, {-15, []int{-8, -7}}, {15, []int{8, 7}}, {126, []int{32, 32, 31, 31}}, {-126, []int{-32, -32, -31, -31}},
		{2, []int{1, 1, 0, 0, 0, 0}}, {math.MaxInt, []int{math.MaxInt}}, {math.MinInt, []int{math.MinInt}},
		{math.MaxInt, []int{math.MaxInt/2 + 1, math.MaxInt / 2}}, {math.MinInt, []int{math.MinInt / 2, math.MinInt / 2}},
		{math.MinInt + 1, []int{math.MinInt / 2, math.MinInt/2 + 1}},
	} {
		if got := shares(c.points, len(c.want)); !slices.Equal(got, c.want) {
			t.Errorf("of %d: %v, not %v", c.points, got, c.want)
		}
	}
}

// Together they have all points; the first ones have more of them, by one at most.
func TestSharesAreAllPoints(t *testing.T) {
	for many := 1; many <= 9; many++ {
		for points := -130; points <= 130; points++ {
			sum, l := 0, shares(points, many)
			for place, s := range l {
				sum += s
				if of := max(s, -s); of != max(points, -points)/many && of != max(points, -points)/many+1 || s*points < 0 {
					t.Fatalf("of %d: %v", points, l)
				}
				if place > 0 && max(s, -s) > max(l[place-1], -l[place-1]) {
					t.Fatalf("of %d: %v", points, l)
				}
			}
			is(t, "all", sum, points)
		}
	}
}

func TestShareOfWhatIsNoPlace(t *testing.T) {
	for _, points := range []int{math.MinInt, -7, -1, 0, 1, 7, math.MaxInt} {
		for _, many := range []int{math.MinInt, -1 << 31, -3, -1, 0, 1, 2, 3, 4} {
			for _, place := range []int{math.MinInt, -1 << 31, -3, -1, max(many, 0), max(many, 0) + 1, 256, 1<<31 - 1, math.MaxInt} {
				is(t, "share", elo.Share(points, many, place), 0)
			}
		}
		is(t, "share", elo.Share(points, math.MaxInt, math.MaxInt), 0)
	}
	is(t, "share", elo.Share(math.MaxInt, math.MaxInt, math.MaxInt-1), 1)
	is(t, "share", elo.Share(math.MinInt, math.MaxInt, 0), -2)
	is(t, "share", elo.Share(math.MinInt, math.MaxInt, 1), -1)
}

// P15.2

// updates fails unless behind a result the ratings are these.
func updates(t *testing.T, a, b []int, result int, first, second []int) {
	t.Helper()
	was, were := slices.Clone(a), slices.Clone(b)
	c, d, e := elo.Update(a, b, result)
	if e != api.OK || !slices.Equal(c, first) || !slices.Equal(d, second) {
		t.Errorf("%v against %v, %d: %v, %v and %d, not %v and %v", was, were, result, c, d, e, first, second)
	}
	if !slices.Equal(a, was) || !slices.Equal(b, were) {
		t.Errorf("what is handed in is changed: %v and %v, not %v and %v", a, b, was, were)
	}
}

// fails fails unless an update answers an error, and nothing beside it.
func fails(t *testing.T, a, b []int, result int, e api.Errno) {
	t.Helper()
	c, d, got := elo.Update(a, b, result)
	if got != e || len(c) != 0 || len(d) != 0 {
		t.Errorf("%v against %v, %d: %v, %v and %d, not %d", a, b, result, c, d, got, e)
	}
}

func TestUpdate(t *testing.T) {
	updates(t, []int{1500}, []int{1500}, 0, []int{1500}, []int{1500})
	updates(t, []int{1500}, []int{1500}, 2, []int{1484}, []int{1516})
	updates(t, []int{1600}, []int{1500}, 0, []int{1596}, []int{1504})
	updates(t, []int{1600}, []int{1500}, 1, []int{1611}, []int{1489})
	updates(t, []int{1600}, []int{1500}, 2, []int{1580}, []int{1520})
	// The lesser team has one, so 16 are at stake, for both together.
	updates(t, []int{1500}, []int{1500, 1500, 1500}, 1, []int{1516}, []int{1494, 1495, 1495})
	updates(t, []int{1500, 1500, 1500}, []int{1500}, 1, []int{1506, 1505, 1505}, []int{1484})
	updates(t, []int{1500, 1500, 1500}, []int{1500}, 2, []int{1494, 1495, 1495}, []int{1516})
	// It is their means that count, and each one's place, not each one's rating.
	updates(t, []int{1700, 1500}, []int{1400, 1600}, 1, []int{1712, 1511}, []int{1388, 1589})
	updates(t, []int{1500, 1700}, []int{1600, 1400}, 2, []int{1480, 1680}, []int{1620, 1420})
	updates(t, []int{1, 2, 3, 9994}, []int{4000, 4000, 2000, 0}, 2, []int{0, 0, 0, 9978}, []int{4016, 4016, 2016, 16})
}

func TestUpdateAtTheEdges(t *testing.T) {
	updates(t, []int{10, 0}, []int{0}, 2, []int{2, 0}, []int{16})
	updates(t, []int{0}, []int{10, 0}, 1, []int{16}, []int{2, 0})
	updates(t, []int{10000}, []int{10000}, 1, []int{10000}, []int{9984})
	updates(t, []int{10000}, []int{10000}, 2, []int{9984}, []int{10000})
	updates(t, []int{9990, 9980}, []int{9985}, 1, []int{9998, 9988}, []int{9969})
	updates(t, []int{9993, 9992}, []int{9992}, 1, []int{10000, 10000}, []int{9976})
	updates(t, []int{9993, 9992}, []int{9992}, 2, []int{9985, 9984}, []int{10000})
	updates(t, []int{0}, []int{0}, 2, []int{0}, []int{16})
	updates(t, []int{16}, []int{16}, 2, []int{0}, []int{32})
	updates(t, []int{15}, []int{15}, 2, []int{0}, []int{31})
	updates(t, []int{0}, []int{0}, 0, []int{0}, []int{0})
	updates(t, []int{0}, []int{10000}, 0, []int{15}, []int{9985})
}

func TestUpdateOfAll(t *testing.T) {
	for _, a := range teams {
		for _, b := range teams {
			for result := range scores {
				stake := elo.Stake(elo.Mean(a...), elo.Mean(b...), min(len(a), len(b)), result)
				updates(t, a, b, result, shared(a, stake), shared(b, -stake))
			}
		}
	}
}

// shared are a team's ratings with points shared among them.
func shared(team []int, points int) []int {
	var l []int
	for place, r := range team {
		r += elo.Share(points, len(team), place)
		if r < 0 {
			r = 0
		}
		if r > 10000 {
			r = 10000
		}
		l = append(l, r)
	}
	return l
}

func TestUpdateOfWrongSizes(t *testing.T) {
	odd := [][]int{nil, {}, {1, 2, 3, 4, 5}, {-1, 0, 0, 0, 0}, make([]int, 256), make([]int, 70000)}
	for _, no := range odd {
		for _, result := range append(none, 0, 1, 2) {
			// Whatever else is wrong.
			for _, other := range slices.Concat(odd[:4], teams, [][]int{{-1}, {10001, 1}}) {
				fails(t, no, other, result, api.ErrSize)
				fails(t, other, no, result, api.ErrSize)
			}
		}
	}
}

func TestUpdateOfWhatIsNoRatingOrResult(t *testing.T) {
	for _, no := range slices.Concat(below, above) {
		for result := range scores {
			for _, team := range [][]int{{no}, {no, 1500}, {1500, no}, {0, no, 10000}, {1, 2, 3, no}, {no, no, no, no}} {
				fails(t, team, []int{1500}, result, api.ErrRange)
				fails(t, []int{1500, 1}, team, result, api.ErrRange)
				fails(t, team, team, result, api.ErrRange)
			}
		}
	}
	for _, result := range none {
		for _, team := range teams {
			fails(t, team, []int{1500}, result, api.ErrRange)
			fails(t, []int{1500, 1500}, team, result, api.ErrRange)
		}
	}
}

// P15.3

// random is a team of some ratings.
func random(r *rand.Rand, from, to int) []int {
	team := make([]int, r.Intn(4)+1)
	for i := range team {
		team[i] = from + r.Intn(to-from+1)
	}
	return team
}

// gains are what each one has more behind than ahead, and their sum.
func gains(ahead, behind []int) ([]int, int) {
	var l []int
	sum := 0
	for i := range ahead {
		l = append(l, behind[i]-ahead[i])
		sum += l[i]
	}
	return l, sum
}

// What the one team wins the other one loses; who wins never loses points.
func TestWhatFollows(t *testing.T) {
	r := rand.New(rand.NewSource(15))
	for range 40000 {
		// Nobody has a rating that 128 points could bring out of 0 to 10000.
		a, b, result := random(r, 128, 9872), random(r, 128, 9872), r.Intn(3)
		if r.Intn(2) == 0 {
			a, b = random(r, 1400, 1700), random(r, 1400, 1700)
		}
		c, d, e := elo.Update(a, b, result)
		if e != api.OK || len(c) != len(a) || len(d) != len(b) {
			t.Fatalf("%v against %v, %d: %v, %v and %d", a, b, result, c, d, e)
		}
		first, won := gains(a, c)
		second, lost := gains(b, d)
		if won != -lost {
			t.Fatalf("%v against %v, %d: %v and %v", a, b, result, first, second)
		}
		if result == 1 && (slices.Min(first) < 0 || slices.Max(second) > 0) || result == 2 && (slices.Max(first) > 0 || slices.Min(second) < 0) {
			t.Fatalf("%v against %v, %d: %v and %v", a, b, result, first, second)
		}
	}
}

// At the edges, too, all stay ratings, and who wins never loses points.
func TestWhatFollowsAtTheEdges(t *testing.T) {
	r := rand.New(rand.NewSource(16))
	for range 40000 {
		a, b, result := random(r, 0, 40), random(r, 0, 40), r.Intn(3)
		if r.Intn(2) == 0 {
			a = random(r, 9960, 10000)
		}
		if r.Intn(2) == 0 {
			b = random(r, 9960, 10000)
		}
		c, d, e := elo.Update(a, b, result)
		if all := slices.Concat(c, d); e != api.OK || slices.Min(all) < 0 || slices.Max(all) > 10000 {
			t.Fatalf("%v against %v, %d: %v, %v and %d", a, b, result, c, d, e)
		}
		first, _ := gains(a, c)
		second, _ := gains(b, d)
		if result == 1 && (slices.Min(first) < 0 || slices.Max(second) > 0) || result == 2 && (slices.Max(first) > 0 || slices.Min(second) < 0) {
			t.Fatalf("%v against %v, %d: %v and %v", a, b, result, first, second)
		}
	}
}

// The lesser the expected the more is won.
func TestTheLesserTheExpectedTheMoreIsWon(t *testing.T) {
	for many := 1; many <= 4; many++ {
		for result := range scores {
			for b := 0; b <= 10000; b += 2500 {
				last := elo.Stake(0, b, many, result)
				for a := range 10001 {
					now := elo.Stake(a, b, many, result)
					if now > last || a > 0 && elo.Expected(a, b) < elo.Expected(a-1, b) {
						t.Fatalf("of %d against %d, %d of them, %d: %d, ahead of it %d", a, b, many, result, now, last)
					}
					last = now
				}
			}
			if few, much := elo.Stake(1600, 1500, many, result), elo.Stake(1500, 1600, many, result); few >= much {
				t.Errorf("%d of them, %d: %d and %d", many, result, few, much)
			}
		}
	}
}

// The rules R4 and R6

func TestAnswersAreTheirOwn(t *testing.T) {
	a := []int{1500, 1400, 1, 2}[:2]
	b := []int{1450, 1450, 3, 4}[:2]
	c, d, _ := elo.Update(a, b, 0)
	e, f, _ := elo.Update(a, b, 0)
	for _, l := range [][]int{c, append(c, 99, 99, 99)} {
		l = l[:cap(l)]
		for i := range l {
			l[i] = 77
		}
	}
	want := []int{1450, 1450}
	if !slices.Equal(d, want) || !slices.Equal(f, want) || !slices.Equal(e, []int{1500, 1400}) {
		t.Errorf("%v, %v, %v", d, e, f)
	}
	if !slices.Equal(a[:4], []int{1500, 1400, 1, 2}) || !slices.Equal(b[:4], []int{1450, 1450, 3, 4}) {
		t.Errorf("what is handed in is changed: %v, %v", a[:4], b[:4])
	}
	a[0], b[1] = 5, 5
	if !slices.Equal(e, []int{1500, 1400}) || !slices.Equal(f, want) {
		t.Errorf("an answer changes: %v, %v", e, f)
	}
}

// One list may be both teams'.
func TestUpdateOfOneTeamTwice(t *testing.T) {
	team := []int{1500, 1600}
	updates(t, team, team, 1, []int{1516, 1616}, []int{1484, 1584})
	c, d, _ := elo.Update(team, team, 0)
	c[0] = 99
	if !slices.Equal(d, []int{1500, 1600}) || !slices.Equal(team, []int{1500, 1600}) {
		t.Errorf("%v, %v", d, team)
	}
}

func TestTheSameAgain(t *testing.T) {
	for range 3 {
		updates(t, []int{1700, 1500}, []int{1400, 1600}, 1, []int{1712, 1511}, []int{1388, 1589})
		is(t, "expected", elo.Expected(9000, 0), 990)
		is(t, "stake", elo.Stake(1600, 1500, 1, 2), -20)
	}
}
