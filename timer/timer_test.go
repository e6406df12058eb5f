package timer_test

import (
	"math"
	"math/big"
	"math/rand"
	"runtime"
	"slices"
	"testing"

	"tiltyard/timer"
)

const (
	least = math.MinInt64
	most  = math.MaxInt64
)

// times are the edges of a time, each side of nought, and some between.
var times = []int64{least, least + 1, least + 2, -1 << 40, -256, -2, -1, 0, 1, 2, 5, 1 << 40, most / 2, most/2 + 1, most - 3, most - 2, most - 1, most}

// kinds and ids are small ones, and such as are at the edges of their types.
var (
	kinds = []int{math.MinInt, -1, 0, 1, 2, math.MaxInt}
	ids   = []uint32{0, 1, 2, 7, 1<<31 - 1, 1 << 31, math.MaxUint32}
)

func at(kind int, id uint32, at int64) timer.Timer {
	return timer.Timer{Kind: kind, Id: id, At: at}
}

// with is a queue in which timers were set, one behind the other.
func with(timers ...timer.Timer) *timer.Queue {
	q := timer.New()
	for _, t := range timers {
		q.Set(t.Kind, t.Id, t.At)
	}
	return q
}

// drain is what is due at a time, in the order in which it comes.
func drain(q *timer.Queue, now int64) []timer.Timer {
	var l []timer.Timer
	for t, is := q.Due(now); is; t, is = q.Due(now) {
		l = append(l, t)
	}
	return l
}

// empty tells whether a queue has no timers.
func empty(q *timer.Queue) bool {
	n, next := q.Next()
	d, due := q.Due(most)
	return q.Len() == 0 && n == timer.Timer{} && !next && d == timer.Timer{} && !due
}

// model is timers in the order in which they were set, of each kind and id one.
type model []timer.Timer

func (m *model) clear(kind int, id uint32) bool {
	i := slices.IndexFunc(*m, func(t timer.Timer) bool { return t.Kind == kind && t.Id == id })
	if i >= 0 {
		*m = slices.Delete(*m, i, i+1)
	}
	return i >= 0
}

func (m *model) set(kind int, id uint32, time int64) {
	m.clear(kind, id)
	*m = append(*m, at(kind, id, time))
}

func (m *model) find(kind int, id uint32) (int64, bool) {
	for _, t := range *m {
		if t.Kind == kind && t.Id == id {
			return t.At, true
		}
	}
	return 0, false
}

func (m *model) next() (timer.Timer, bool) {
	var first timer.Timer
	for i, t := range *m {
		if i == 0 || t.At < first.At {
			first = t
		}
	}
	return first, len(*m) > 0
}

func (m *model) due(now int64) (timer.Timer, bool) {
	t, is := m.next()
	if !is || t.At > now {
		return timer.Timer{}, false
	}
	m.clear(t.Kind, t.Id)
	return t, true
}

// P8.1

func TestAdd(t *testing.T) {
	for _, now := range times {
		for _, some := range times {
			want := big.NewInt(now)
			if some > 0 {
				want.Add(want, big.NewInt(some))
			}
			if want.Cmp(big.NewInt(most)) > 0 {
				want = big.NewInt(most)
			}
			if got := timer.Add(now, some); got != want.Int64() {
				t.Errorf("%d and %d more: %d, not %d", now, some, got, want)
			}
		}
	}
}

func TestAddOfPlainNumbers(t *testing.T) {
	for _, c := range []struct{ now, some, want int64 }{
		{most - 2, 9, most},
		{most - 2, 2, most},
		{most - 2, 1, most - 1},
		{most, 1, most},
		{most, most, most},
		{most, 0, most},
		{1, most, most},
		{0, most, most},
		{-1, most, most - 1},
		{least, most, -1},
		{least, 0, least},
		{least, -1, least},
		{0, least, 0},
		{most, least, most},
		{5, -3, 5},
		{5, 0, 5},
		{5, 3, 8},
		{-5, 3, -2},
		{-5, 9, 4},
		{-5, -3, -5},
	} {
		if got := timer.Add(c.now, c.some); got != c.want {
			t.Errorf("%d and %d more: %d, not %d", c.now, c.some, got, c.want)
		}
	}
}

func TestNew(t *testing.T) {
	q := timer.New()
	if q == nil || !empty(q) {
		t.Fatal("a new queue has timers")
	}
	for _, kind := range kinds {
		for _, id := range ids {
			if time, is := q.Find(kind, id); time != 0 || is || q.Clear(kind, id) {
				t.Errorf("%d, %d is there", kind, id)
			}
		}
	}
	for _, now := range times {
		if x, is := q.Due(now); is || x != (timer.Timer{}) {
			t.Errorf("at %d %v is due", now, x)
		}
	}
}

func TestSetAndFind(t *testing.T) {
	q := timer.New()
	many := 0
	for i, kind := range kinds {
		for j, id := range ids {
			q.Set(kind, id, times[(i*len(ids)+j)%len(times)])
			if many++; q.Len() != many {
				t.Errorf("%d timers, not %d", q.Len(), many)
			}
		}
	}
	for i, kind := range kinds {
		for j, id := range ids {
			want := times[(i*len(ids)+j)%len(times)]
			if time, is := q.Find(kind, id); time != want || !is {
				t.Errorf("%d, %d is due at %d, %v, not at %d", kind, id, time, is, want)
			}
		}
	}
	for _, none := range []timer.Timer{at(3, 1, 0), at(1, 3, 0), at(-2, 7, 0), at(7, 1, 0)} {
		if time, is := q.Find(none.Kind, none.Id); time != 0 || is {
			t.Errorf("%d, %d is due at %d, %v", none.Kind, none.Id, time, is)
		}
	}
}

// A kind and an id are told apart as two, not as one number or text put together of both.
func TestAKindIsNoId(t *testing.T) {
	q := with(at(1, 2, 5), at(2, 1, 6), at(12, 3, 7), at(1, 23, 8), at(0, 1, 9), at(1, 0, 10))
	if q.Len() != 6 {
		t.Errorf("%d timers", q.Len())
	}
	if !q.Clear(2, 1) || q.Clear(2, 1) || !q.Clear(1, 23) {
		t.Error("Clear of what is there")
	}
	want := []timer.Timer{at(1, 2, 5), at(12, 3, 7), at(0, 1, 9), at(1, 0, 10)}
	if got := drain(q, most); !slices.Equal(got, want) {
		t.Errorf("%v, not %v", got, want)
	}
}

func TestSetAnew(t *testing.T) {
	for _, c := range []struct{ first, then int64 }{{5, 5}, {5, 9}, {9, 5}, {least, most}, {most, least}, {0, 0}} {
		q := with(at(1, 7, c.first), at(1, 7, c.then))
		if time, is := q.Find(1, 7); time != c.then || !is || q.Len() != 1 {
			t.Errorf("set at %d, then at %d: %d, %v, of %d", c.first, c.then, time, is, q.Len())
		}
		if got := drain(q, most); !slices.Equal(got, []timer.Timer{at(1, 7, c.then)}) || !empty(q) {
			t.Errorf("set at %d, then at %d: %v", c.first, c.then, got)
		}
	}
}

func TestClear(t *testing.T) {
	timers := []timer.Timer{at(1, 1, 5), at(1, 2, 3), at(2, 1, 9), at(2, 2, 3), at(3, 1, -4), at(3, 2, 5), at(3, 3, 7)}
	for _, gone := range timers {
		q := with(timers...)
		if !q.Clear(gone.Kind, gone.Id) || q.Clear(gone.Kind, gone.Id) || q.Len() != len(timers)-1 {
			t.Errorf("Clear of %v, %d are left", gone, q.Len())
		}
		if time, is := q.Find(gone.Kind, gone.Id); time != 0 || is {
			t.Errorf("%v is there still", gone)
		}
		m := model(slices.Clone(timers))
		m.clear(gone.Kind, gone.Id)
		var want []timer.Timer
		for x, is := m.due(most); is; x, is = m.due(most) {
			want = append(want, x)
		}
		if got := drain(q, most); !slices.Equal(got, want) {
			t.Errorf("without %v: %v, not %v", gone, got, want)
		}
	}
}

func TestClearOfWhatIsNotThere(t *testing.T) {
	q := with(at(1, 7, 5))
	for _, none := range []timer.Timer{at(1, 8, 0), at(2, 7, 0), at(7, 1, 0), at(0, 0, 0), at(-1, 7, 0)} {
		if q.Clear(none.Kind, none.Id) || q.Len() != 1 {
			t.Errorf("%d, %d was there", none.Kind, none.Id)
		}
	}
	if !slices.Equal(drain(q, 5), []timer.Timer{at(1, 7, 5)}) {
		t.Error("what is there is cleared, too")
	}
}

// One that is cleared, or was due, and is set again was set then.
func TestSetAgain(t *testing.T) {
	q := with(at(1, 7, 5), at(2, 7, 5))
	q.Clear(1, 7)
	q.Set(1, 7, 5)
	if x, is := q.Due(5); x != at(2, 7, 5) || !is {
		t.Errorf("%v comes first", x)
	}
	q.Set(2, 7, 5)
	if got := drain(q, 5); !slices.Equal(got, []timer.Timer{at(1, 7, 5), at(2, 7, 5)}) {
		t.Errorf("%v", got)
	}
}

// P8.2

func TestNextAndDue(t *testing.T) {
	q := with(at(1, 7, 5), at(2, 9, 3))
	for range 3 {
		if x, is := q.Next(); x != at(2, 9, 3) || !is || q.Len() != 2 {
			t.Errorf("the first is %v, %v, of %d", x, is, q.Len())
		}
	}
	for _, now := range []int64{least, -1, 0, 2} {
		if x, is := q.Due(now); is || x != (timer.Timer{}) || q.Len() != 2 {
			t.Errorf("at %d %v is due, %d are left", now, x, q.Len())
		}
	}
	if x, is := q.Due(3); x != at(2, 9, 3) || !is || q.Len() != 1 {
		t.Errorf("at 3 %v is due, %d are left", x, q.Len())
	}
	if _, is := q.Find(2, 9); is || q.Clear(2, 9) {
		t.Error("what was due is there still")
	}
	if x, is := q.Due(4); is || x != (timer.Timer{}) {
		t.Errorf("at 4 %v is due", x)
	}
	if x, is := q.Due(6); x != at(1, 7, 5) || !is || !empty(q) {
		t.Errorf("at 6 %v is due, %d are left", x, q.Len())
	}
}

func TestDueAtTheEdges(t *testing.T) {
	for _, time := range times {
		for _, now := range times {
			q := with(at(1, 2, time))
			x, is := q.Due(now)
			if is != (time <= now) || is && (x != at(1, 2, time) || !empty(q)) || !is && (x != timer.Timer{} || q.Len() != 1) {
				t.Errorf("due at %d, at %d: %v, %v, %d are left", time, now, x, is, q.Len())
			}
		}
	}
}

func TestTheExamples(t *testing.T) {
	if timer.Add(most-2, 9) != most {
		t.Error("Add")
	}
	q := with(at(1, 7, 5), at(2, 7, 5), at(1, 7, 5))
	a, _ := q.Due(5)
	b, _ := q.Due(5)
	if a != at(2, 7, 5) || b != at(1, 7, 5) || !empty(q) {
		t.Errorf("%v, then %v", a, b)
	}
}

func TestOfOneTimeTheFirstSetStandsAhead(t *testing.T) {
	// Neither by their kinds nor by their ids.
	timers := []timer.Timer{at(3, 9, 5), at(1, 4, 5), at(2, 9, 5), at(2, 1, 5), at(-1, 7, 5), at(9, 0, 5), at(1, 1, 5)}
	if got := drain(with(timers...), 5); !slices.Equal(got, timers) {
		t.Errorf("%v, not %v", got, timers)
	}
	for i, anew := range timers {
		q := with(timers...)
		q.Set(anew.Kind, anew.Id, 5)
		want := append(slices.Delete(slices.Clone(timers), i, i+1), anew)
		if got := drain(q, 5); !slices.Equal(got, want) {
			t.Errorf("%v anew: %v, not %v", anew, got, want)
		}
	}
	// Away from that time and back again is anew, too.
	q := with(timers...)
	q.Set(3, 9, 4)
	q.Set(3, 9, 5)
	if got := drain(q, 5); !slices.Equal(got, append(slices.Clone(timers[1:]), timers[0])) {
		t.Errorf("%v", got)
	}
}

func TestAllOrdersOfAFewTimes(t *testing.T) {
	const many, span = 6, 3
	all := 1
	for range many {
		all *= span
	}
	for c := range all {
		var m model
		q := timer.New()
		for i, rest := 0, c; i < many; i, rest = i+1, rest/span {
			time := int64(rest%span) - 1
			m.set(i%2, uint32(i/2), time)
			q.Set(i%2, uint32(i/2), time)
		}
		for range many + 1 {
			want, there := m.due(1)
			if got, is := q.Due(1); got != want || is != there {
				t.Fatalf("%d: %v, %v, not %v, %v", c, got, is, want, there)
			}
		}
	}
}

func TestNilQueue(t *testing.T) {
	var q *timer.Queue
	for range 2 {
		if !empty(q) || q.Clear(1, 7) {
			t.Error("a nil queue has timers")
		}
		if time, is := q.Find(1, 7); time != 0 || is {
			t.Errorf("in a nil queue one is due at %d", time)
		}
		q.Set(1, 7, 5)
		q.Set(0, 0, least)
	}
}

func TestTimersCanBeCompared(t *testing.T) {
	seen := map[timer.Timer]int{}
	for range 2 {
		for _, x := range []timer.Timer{{}, at(1, 2, 3), at(9, 2, 3), at(1, 9, 3), at(1, 2, 9)} {
			seen[x]++
		}
	}
	if len(seen) != 5 || at(1, 2, 3) != at(1, 2, 3) {
		t.Errorf("%d of 5 are told apart", len(seen))
	}
}

// P8.3

func TestAsTheModelIs(t *testing.T) {
	for seed := range int64(12) {
		r := rand.New(rand.NewSource(seed))
		span := 1 << (1 + seed) // of one time many, or few
		var m model
		q := timer.New()
		for range 3000 {
			kind, id, time := r.Intn(4)-1, uint32(r.Intn(12)), int64(r.Intn(span)-span/2)
			switch r.Intn(10) {
			case 0:
				kind, id = kinds[r.Intn(len(kinds))], ids[r.Intn(len(ids))]
			case 1:
				time = times[r.Intn(len(times))]
			}
			switch r.Intn(5) {
			case 0, 1:
				q.Set(kind, id, time)
				m.set(kind, id, time)
			case 2:
				if got, want := q.Clear(kind, id), m.clear(kind, id); got != want {
					t.Fatalf("Clear of %d, %d: %v", kind, id, got)
				}
			case 3:
				got, is := q.Due(time)
				if want, there := m.due(time); got != want || is != there {
					t.Fatalf("Due of %d: %v, %v, not %v, %v", time, got, is, want, there)
				}
			case 4:
				got, is := q.Find(kind, id)
				if want, there := m.find(kind, id); got != want || is != there {
					t.Fatalf("Find of %d, %d: %d, %v, not %d, %v", kind, id, got, is, want, there)
				}
			}
			got, is := q.Next()
			if want, there := m.next(); got != want || is != there || q.Len() != len(m) {
				t.Fatalf("the first is %v, %v, not %v, %v; %d timers, not %d", got, is, want, there, q.Len(), len(m))
			}
		}
	}
}

// As time goes on, each timer comes once, in its order, and none ahead of its time.
func TestAsTimeGoesOn(t *testing.T) {
	r := rand.New(rand.NewSource(1))
	q := timer.New()
	want := map[timer.Timer]int{}
	for id := range uint32(500) {
		x := at(int(id%3), id, int64(r.Intn(200)))
		q.Set(x.Kind, x.Id, x.At)
		want[x]++
	}
	for now := range int64(200) {
		for _, x := range drain(q, now) {
			if want[x]--; want[x] != 0 || x.At != now {
				t.Fatalf("at %d comes %v", now, x)
			}
		}
		if x, is := q.Next(); is && x.At <= now {
			t.Fatalf("at %d %v is left", now, x)
		}
	}
	if !empty(q) {
		t.Errorf("%d are left", q.Len())
	}
}

func TestManyTimers(t *testing.T) {
	const many = 100000
	r := rand.New(rand.NewSource(2))
	q := timer.New()
	for id := range uint32(many) {
		q.Set(1, id, int64(r.Intn(many/4)))
	}
	for id := range uint32(many) {
		if id%3 == 0 && !q.Clear(1, id) {
			t.Fatalf("%d was not there", id)
		}
	}
	// Of one time the ids rise, as they were set so.
	l := drain(q, most)
	sorted := slices.IsSortedFunc(l, func(a, b timer.Timer) int {
		if a.At != b.At {
			return int(a.At - b.At)
		}
		return int(a.Id) - int(b.Id)
	})
	if !sorted || len(l) != many-(many+2)/3 || !empty(q) {
		t.Errorf("%d came, in order: %v", len(l), sorted)
	}
}

// The rules R4 and R6, and what is kept

func TestAnswersAreTheirOwn(t *testing.T) {
	q := with(at(1, 7, 5))
	x, _ := q.Next()
	x.At, x.Id, x.Kind = 9, 9, 9
	if y, is := q.Next(); y != at(1, 7, 5) || !is {
		t.Errorf("the first is %v now", y)
	}
	if time, is := q.Find(1, 7); time != 5 || !is {
		t.Errorf("it is due at %d now", time)
	}
}

func TestQueuesShareNothing(t *testing.T) {
	a, b := timer.New(), timer.New()
	a.Set(1, 7, 5)
	if !empty(b) {
		t.Error("what is set in one queue is in the other one")
	}
	b.Set(1, 7, 6)
	if time, _ := a.Find(1, 7); time != 5 {
		t.Errorf("it is due at %d", time)
	}
	if !b.Clear(1, 7) || a.Len() != 1 || b.Len() != 0 {
		t.Error("what is cleared in one queue is in the other one")
	}
}

func TestTheSameAgain(t *testing.T) {
	run := func() []timer.Timer {
		r := rand.New(rand.NewSource(3))
		q := timer.New()
		for range 500 {
			q.Set(r.Intn(5), uint32(r.Intn(50)), int64(r.Intn(6)))
		}
		return drain(q, most)
	}
	first := run()
	for range 5 {
		if !slices.Equal(run(), first) {
			t.Error("the same calls answer otherwise")
		}
	}
}

// inUse is how much memory is in use.
func inUse() int64 {
	runtime.GC()
	var m runtime.MemStats
	runtime.ReadMemStats(&m)
	return int64(m.HeapAlloc)
}

func TestWhatIsSetAnewIsNotKept(t *testing.T) {
	q := timer.New()
	before := inUse()
	for i := range int64(200000) {
		q.Set(1, 7, i)
		q.Set(2, uint32(i), i)
		if i%2 == 0 {
			q.Clear(2, uint32(i))
		} else {
			q.Due(i)
		}
	}
	if more := inUse() - before; more > 1<<20 || q.Len() > 2 {
		t.Errorf("%d timers hold %d bytes of memory", q.Len(), more)
	}
}
