package ledger_test

import (
	"math"
	"math/rand"
	"runtime"
	"slices"
	"testing"

	"tiltyard/api"
	"tiltyard/ledger"
)

const (
	least = math.MinInt64
	most  = math.MaxInt64
)

// nonces, owners and times are small ones, and such as are at the edges of their types.
var (
	nonces = []uint64{0, 1, 5, 1<<31 - 1, 1 << 32, 1 << 63, math.MaxUint64 - 1, math.MaxUint64}
	owners = []uint32{0, 1, 7, 1<<31 - 1, 1 << 31, math.MaxUint32}
	times  = []int64{least, least + 1, -1 << 40, -2, -1, 0, 1, 2, 9, 1 << 40, most - 1, most}
)

func entry(nonce uint64, owner, what uint32, expiry int64) ledger.Entry {
	return ledger.Entry{Nonce: nonce, Owner: owner, What: what, Expiry: expiry}
}

// with is a ledger for so many with entries, issued as early as can be, so that none is old then.
func with(many int, entries ...ledger.Entry) *ledger.Ledger {
	l := ledger.New(many)
	for _, e := range entries {
		l.Issue(e, least)
	}
	return l
}

// holds tells whether a ledger holds just these entries, whose nonces rise.
func holds(l *ledger.Ledger, entries ...ledger.Entry) bool {
	var want []uint64
	for _, e := range entries {
		want = append(want, e.Nonce)
		if got, is := l.Get(e.Nonce); got != e || !is {
			return false
		}
	}
	return l.Len() == len(entries) && slices.Equal(l.Nonces(), want)
}

// model is what the chapter says of a ledger, by a list of entries in the order in which they were issued.
type model struct {
	most    int
	entries []ledger.Entry
}

func (m *model) find(nonce uint64) int {
	return slices.IndexFunc(m.entries, func(e ledger.Entry) bool { return e.Nonce == nonce })
}

func (m *model) issue(e ledger.Entry, now int64) api.Errno {
	switch {
	case now > e.Expiry:
		return api.ErrOld
	case m.find(e.Nonce) >= 0:
		return api.ErrExists
	case len(m.entries) >= max(m.most, 0):
		return api.ErrFull
	}
	m.entries = append(m.entries, e)
	return api.OK
}

func (m *model) spend(nonce uint64, owner, what uint32, now int64) api.Errno {
	i := m.find(nonce)
	switch {
	case i < 0:
		return api.ErrMissing
	case m.entries[i].Owner != owner, m.entries[i].What != what:
		return api.ErrWrong
	case now > m.entries[i].Expiry:
		return api.ErrOld
	}
	m.entries = slices.Delete(m.entries, i, i+1)
	return api.OK
}

// drop takes the entries away of which something is so, and tells how many that were.
func (m *model) drop(is func(ledger.Entry) bool) int {
	before := len(m.entries)
	m.entries = slices.DeleteFunc(m.entries, is)
	return before - len(m.entries)
}

func (m *model) revoke(nonces ...uint64) int {
	return m.drop(func(e ledger.Entry) bool { return slices.Contains(nonces, e.Nonce) })
}

func (m *model) sweep(now int64) int {
	return m.drop(func(e ledger.Entry) bool { return now > e.Expiry })
}

// like fails unless a ledger is as the model is, whatever is asked of it.
func (m *model) like(t *testing.T, l *ledger.Ledger) {
	t.Helper()
	want := slices.Clone(m.entries)
	slices.SortFunc(want, func(a, b ledger.Entry) int {
		if a.Nonce < b.Nonce {
			return -1
		}
		return 1
	})
	if !holds(l, want...) {
		t.Fatalf("nonces %v, %d of them, not those of %v", l.Nonces(), l.Len(), want)
	}
	for _, nonce := range nonces {
		if got, is := l.Get(nonce); m.find(nonce) < 0 && (got != ledger.Entry{} || is) {
			t.Fatalf("Get of %d: %v, %v", nonce, got, is)
		}
	}
}

// P9.1

func TestNew(t *testing.T) {
	for _, many := range []int{math.MinInt, -1 << 31, -2, -1, 0, 1, 2, 3, 256} {
		l := ledger.New(many)
		if l == nil || !holds(l) {
			t.Errorf("a ledger for %d is not empty", many)
		}
		for i := range max(many, 0) {
			if e := l.Issue(entry(uint64(i), 7, 0, 9), 0); e != api.OK {
				t.Errorf("a ledger for %d does not take the one behind %d: error %d", many, i, e)
			}
		}
		for range 2 {
			if e := l.Issue(entry(1<<40, 7, 0, 9), 0); e != api.ErrFull || l.Len() != max(many, 0) {
				t.Errorf("a ledger for %d takes more: error %d, %d", many, e, l.Len())
			}
		}
	}
}

func TestALedgerForManyTakesNoRoomAhead(t *testing.T) {
	before := inUse()
	l := ledger.New(math.MaxInt)
	if e := l.Issue(entry(math.MaxUint64, 7, 0, 9), 0); e != api.OK {
		t.Errorf("error %d", e)
	}
	if more := inUse() - before; more > 1<<20 || l.Len() != 1 {
		t.Errorf("%d bytes of memory for %d", more, l.Len())
	}
}

func TestIssue(t *testing.T) {
	for _, nonce := range nonces {
		for _, owner := range owners {
			for _, what := range owners {
				l, e := ledger.New(2), entry(nonce, owner, what, 9)
				if err := l.Issue(e, 0); err != api.OK || !holds(l, e) {
					t.Errorf("%v: error %d", e, err)
				}
			}
		}
	}
}

func TestIssueAsksWhetherItIsOld(t *testing.T) {
	for _, expiry := range times {
		for _, now := range times {
			l, e := ledger.New(1), entry(5, 7, 0, expiry)
			err := l.Issue(e, now)
			if now > expiry && (err != api.ErrOld || !holds(l)) {
				t.Errorf("till %d, at %d: error %d, %d there", expiry, now, err, l.Len())
			}
			if now <= expiry && (err != api.OK || !holds(l, e)) {
				t.Errorf("till %d, at %d: error %d, %d there", expiry, now, err, l.Len())
			}
		}
	}
}

// Of one nonce there is one entry, whatever else it has.
func TestIssueOnce(t *testing.T) {
	for _, nonce := range nonces {
		first := entry(nonce, 7, 3, 9)
		l := with(3, first)
		for _, e := range []ledger.Entry{first, entry(nonce, 8, 3, 9), entry(nonce, 7, 4, 9), entry(nonce, 7, 3, most)} {
			if err := l.Issue(e, 0); err != api.ErrExists || !holds(l, first) {
				t.Errorf("%v once more: error %d", e, err)
			}
		}
	}
}

// An old one stands there till it is swept.
func TestAnOldOneTakesItsRoom(t *testing.T) {
	old := entry(5, 7, 0, 9)
	l := with(1, old)
	if e := l.Issue(entry(5, 7, 0, 50), 10); e != api.ErrExists {
		t.Errorf("its nonce: error %d", e)
	}
	if e := l.Issue(entry(6, 7, 0, 50), 10); e != api.ErrFull || !holds(l, old) {
		t.Errorf("another nonce: error %d", e)
	}
	if l.Sweep(10) != 1 || l.Issue(entry(5, 7, 0, 50), 10) != api.OK || !holds(l, entry(5, 7, 0, 50)) {
		t.Error("what is swept takes room still")
	}
}

// Of several errors the first one counts: ErrOld, ErrExists, ErrFull.
func TestTheFirstErrorOfIssueCounts(t *testing.T) {
	full, room := with(1, entry(5, 7, 0, 9)), with(2, entry(5, 7, 0, 9))
	for _, c := range []struct {
		l    *ledger.Ledger
		e    ledger.Entry
		want api.Errno
	}{
		{full, entry(5, 7, 0, 9), api.ErrOld},
		{full, entry(6, 7, 0, 9), api.ErrOld},
		{room, entry(5, 7, 0, 9), api.ErrOld},
		{room, entry(6, 7, 0, 9), api.ErrOld},
		{ledger.New(0), entry(6, 7, 0, 9), api.ErrOld},
		{full, entry(5, 7, 0, 10), api.ErrExists},
		{full, entry(6, 7, 0, 10), api.ErrFull},
		{room, entry(5, 7, 0, 10), api.ErrExists},
		{ledger.New(0), entry(6, 7, 0, 10), api.ErrFull},
		{room, entry(6, 7, 0, 10), api.OK},
	} {
		if got := c.l.Issue(c.e, 10); got != c.want {
			t.Errorf("%v beside %d: error %d, not %d", c.e, c.l.Len(), got, c.want)
		}
	}
}

// P9.2

func TestTheExample(t *testing.T) {
	l := ledger.New(1)
	if e := l.Issue(entry(5, 7, 0, 9), 0); e != api.OK {
		t.Errorf("Issue: error %d", e)
	}
	for i, c := range []struct {
		owner uint32
		want  api.Errno
	}{{8, api.ErrWrong}, {7, api.OK}, {7, api.ErrMissing}} {
		if got := l.Spend(5, c.owner, 0, 0); got != c.want {
			t.Errorf("%d: Spend by %d: error %d, not %d", i, c.owner, got, c.want)
		}
	}
}

func TestSpend(t *testing.T) {
	for _, nonce := range nonces {
		for _, owner := range owners {
			for _, what := range owners {
				other := entry(nonce+1, owner, what, 9)
				l := with(2, entry(nonce, owner, what, 9), other)
				if e := l.Spend(nonce, owner, what, 9); e != api.OK || !holds(l, other) {
					t.Errorf("%d by %d for %d: error %d, %v are left", nonce, owner, what, e, l.Nonces())
				}
				if e := l.Spend(nonce, owner, what, 9); e != api.ErrMissing || !holds(l, other) {
					t.Errorf("%d by %d for %d once more: error %d, %v are left", nonce, owner, what, e, l.Nonces())
				}
			}
		}
	}
}

func TestSpendOfWhatIsNotThere(t *testing.T) {
	e := entry(5, 7, 0, 9)
	for _, l := range []*ledger.Ledger{ledger.New(0), ledger.New(3), with(1, e)} {
		before := l.Len()
		for _, nonce := range []uint64{0, 4, 6, 7, 9, 5 + 1<<32, math.MaxUint64} {
			if err := l.Spend(nonce, 7, 0, 0); err != api.ErrMissing || l.Len() != before {
				t.Errorf("%d beside %v: error %d", nonce, l.Nonces(), err)
			}
		}
	}
}

func TestSpendByAnotherOneOrForSomethingElse(t *testing.T) {
	for _, owner := range owners {
		for _, what := range owners {
			e := entry(5, owner, what, 9)
			l := with(1, e)
			for _, by := range owners {
				for _, purpose := range owners {
					if by == owner && purpose == what {
						continue
					}
					if err := l.Spend(5, by, purpose, 0); err != api.ErrWrong || !holds(l, e) {
						t.Errorf("%v by %d for %d: error %d", e, by, purpose, err)
					}
				}
			}
			if err := l.Spend(5, owner, what, 0); err != api.OK {
				t.Errorf("%v behind wrong ones: error %d", e, err)
			}
		}
	}
}

func TestSpendOfWhatIsOld(t *testing.T) {
	for _, expiry := range times {
		for _, now := range times {
			e := entry(5, 7, 0, expiry)
			l := with(1, e)
			err := l.Spend(5, 7, 0, now)
			if now > expiry && (err != api.ErrOld || !holds(l, e)) {
				t.Errorf("till %d, at %d: error %d, %d left", expiry, now, err, l.Len())
			}
			if now <= expiry && (err != api.OK || !holds(l)) {
				t.Errorf("till %d, at %d: error %d, %d left", expiry, now, err, l.Len())
			}
		}
	}
}

// Time may be handed in anyhow: what was old at one is spent at an earlier one.
func TestSpendHangsOnTheTimeHandedIn(t *testing.T) {
	l := with(1, entry(5, 7, 0, 9))
	if a, b := l.Spend(5, 7, 0, 10), l.Spend(5, 7, 0, 9); a != api.ErrOld || b != api.OK {
		t.Errorf("errors %d and %d", a, b)
	}
}

// Of several errors the first one counts: ErrMissing, ErrWrong, ErrOld.
func TestTheFirstErrorOfSpendCounts(t *testing.T) {
	l := with(1, entry(5, 7, 3, 9))
	for _, c := range []struct {
		nonce       uint64
		owner, what uint32
		want        api.Errno
	}{
		{6, 8, 4, api.ErrMissing},
		{6, 7, 3, api.ErrMissing},
		{5, 8, 4, api.ErrWrong},
		{5, 8, 3, api.ErrWrong},
		{5, 7, 4, api.ErrWrong},
		{5, 3, 7, api.ErrWrong},
		{5, 7, 3, api.ErrOld},
	} {
		if got := l.Spend(c.nonce, c.owner, c.what, 10); got != c.want {
			t.Errorf("%d by %d for %d: error %d, not %d", c.nonce, c.owner, c.what, got, c.want)
		}
	}
}

func TestRevoke(t *testing.T) {
	a, b, c := entry(2, 7, 0, 9), entry(5, 8, 1, 9), entry(math.MaxUint64, 7, 2, 9)
	for _, x := range []struct {
		nonces []uint64
		want   int
		left   []ledger.Entry
	}{
		{nil, 0, []ledger.Entry{a, b, c}},
		{[]uint64{}, 0, []ledger.Entry{a, b, c}},
		{[]uint64{0, 1, 3, 4, 6, math.MaxUint64 - 1}, 0, []ledger.Entry{a, b, c}},
		{[]uint64{5}, 1, []ledger.Entry{a, c}},
		{[]uint64{5, 5, 5}, 1, []ledger.Entry{a, c}},
		{[]uint64{math.MaxUint64, 2}, 2, []ledger.Entry{b}},
		{[]uint64{3, 2, 4, 5, 2, 6}, 2, []ledger.Entry{c}},
		{[]uint64{2, 5, math.MaxUint64}, 3, nil},
	} {
		l := with(3, a, b, c)
		if got := l.Revoke(x.nonces...); got != x.want || !holds(l, x.left...) {
			t.Errorf("Revoke of %v: %d, not %d; %v are left", x.nonces, got, x.want, l.Nonces())
		}
		if got := l.Revoke(x.nonces...); got != 0 || !holds(l, x.left...) {
			t.Errorf("Revoke of %v once more: %d; %v are left", x.nonces, got, l.Nonces())
		}
		for _, nonce := range x.nonces {
			if e := l.Spend(nonce, 7, 0, 0); e != api.ErrMissing {
				t.Errorf("%d is taken back, and spent: error %d", nonce, e)
			}
		}
	}
}

func TestSweep(t *testing.T) {
	var all []ledger.Entry
	for i, expiry := range times {
		all = append(all, entry(uint64(i), 7, 0, expiry), entry(uint64(i)+100, 8, 1, expiry))
	}
	slices.SortFunc(all, func(a, b ledger.Entry) int { return int(a.Nonce) - int(b.Nonce) })
	for _, now := range times {
		var left []ledger.Entry
		for _, e := range all {
			if now <= e.Expiry {
				left = append(left, e)
			}
		}
		l := with(len(all), all...)
		if got := l.Sweep(now); got != len(all)-len(left) || !holds(l, left...) {
			t.Errorf("at %d: %d of %d are swept, %v are left", now, got, len(all), l.Nonces())
		}
		if got := l.Sweep(now); got != 0 || !holds(l, left...) {
			t.Errorf("at %d once more: %d are swept", now, got)
		}
	}
	if got := ledger.New(3).Sweep(most); got != 0 {
		t.Errorf("of none %d are swept", got)
	}
}

func TestWhatGoesMakesRoom(t *testing.T) {
	for name, take := range map[string]func(*ledger.Ledger){
		"Spend":  func(l *ledger.Ledger) { l.Spend(5, 7, 0, 9) },
		"Revoke": func(l *ledger.Ledger) { l.Revoke(5) },
		"Sweep":  func(l *ledger.Ledger) { l.Sweep(10) },
	} {
		l := with(2, entry(5, 7, 0, 9), entry(6, 7, 0, 20))
		take(l)
		if l.Issue(entry(5, 9, 4, 30), 10) != api.OK || l.Issue(entry(8, 7, 0, 30), 10) != api.ErrFull {
			t.Errorf("%s: as many go in as went out", name)
		}
		if !holds(l, entry(5, 9, 4, 30), entry(6, 7, 0, 20)) {
			t.Errorf("%s: %v are there", name, l.Nonces())
		}
	}
}

// P9.3

func TestGet(t *testing.T) {
	a, b := entry(0, 0, 0, 0), entry(math.MaxUint64, math.MaxUint32, 9, most)
	l := with(2, a, b)
	for range 2 {
		for _, want := range []ledger.Entry{a, b} {
			if got, is := l.Get(want.Nonce); got != want || !is {
				t.Errorf("%d: %v, %v", want.Nonce, got, is)
			}
		}
	}
	for _, nonce := range []uint64{1, 9, 1 << 32, math.MaxUint64 - 1} {
		if got, is := l.Get(nonce); got != (ledger.Entry{}) || is {
			t.Errorf("%d: %v, %v", nonce, got, is)
		}
	}
	// One that is old is seen till it is swept.
	if got, is := l.Get(0); l.Spend(0, 0, 0, 1) != api.ErrOld || got != a || !is {
		t.Errorf("an old one: %v, %v", got, is)
	}
}

func TestNonces(t *testing.T) {
	r := rand.New(rand.NewSource(1))
	for many := range 50 {
		l := ledger.New(many)
		var want []uint64
		for range many {
			nonce := r.Uint64() >> r.Intn(60)
			for slices.Contains(want, nonce) {
				nonce++
			}
			want = append(want, nonce)
			l.Issue(entry(nonce, 7, 0, 9), 0)
		}
		slices.Sort(want)
		if got := l.Nonces(); !slices.Equal(got, want) || l.Len() != many {
			t.Errorf("%v, %d of them, not %v", got, l.Len(), want)
		}
	}
}

func TestNilLedger(t *testing.T) {
	var l *ledger.Ledger
	for _, nonce := range nonces {
		for _, now := range times {
			// Whether it is old or not.
			if e := l.Issue(entry(nonce, 7, 0, 0), now); e != api.ErrFull {
				t.Errorf("Issue of %d at %d: error %d", nonce, now, e)
			}
			if e := l.Spend(nonce, 7, 0, now); e != api.ErrMissing {
				t.Errorf("Spend of %d at %d: error %d", nonce, now, e)
			}
			if many := l.Sweep(now); many != 0 {
				t.Errorf("Sweep at %d: %d", now, many)
			}
		}
		if e, is := l.Get(nonce); e != (ledger.Entry{}) || is {
			t.Errorf("Get of %d: %v, %v", nonce, e, is)
		}
	}
	if l.Revoke() != 0 || l.Revoke(nonces...) != 0 || len(l.Nonces()) != 0 || l.Len() != 0 {
		t.Error("a nil ledger holds something")
	}
}

func TestEntriesCanBeCompared(t *testing.T) {
	seen := map[ledger.Entry]int{}
	for range 2 {
		for _, e := range []ledger.Entry{entry(1, 2, 3, 4), entry(9, 2, 3, 4), entry(1, 9, 3, 4), entry(1, 2, 9, 4), entry(1, 2, 3, 9)} {
			seen[e]++
		}
	}
	if len(seen) != 5 || seen[entry(1, 2, 3, 4)] != 2 {
		t.Errorf("%d of 5 are told apart", len(seen))
	}
}

// P9.4

func TestSpentAtMostOnce(t *testing.T) {
	l := ledger.New(8)
	spent := map[uint64]int{}
	for nonce := range uint64(8) {
		l.Issue(entry(nonce, uint32(nonce%3), uint32(nonce%2), int64(nonce)), 0)
	}
	for now := range int64(10) {
		for nonce := range uint64(10) {
			for owner := range uint32(4) {
				for what := range uint32(3) {
					e, there := l.Get(nonce)
					ok := l.Spend(nonce, owner, what, now) == api.OK
					if right := there && owner == e.Owner && what == e.What && now <= e.Expiry; ok != right {
						t.Fatalf("%d by %d for %d at %d: %v", nonce, owner, what, now, ok)
					}
					if ok {
						spent[nonce]++
					}
				}
			}
		}
	}
	for nonce := range uint64(10) {
		if want := min(spent[nonce], 1); spent[nonce] != want || (nonce < 8) != (want == 1) {
			t.Errorf("%d is spent %d times", nonce, spent[nonce])
		}
	}
}

func TestAsTheModelIs(t *testing.T) {
	for _, many := range []int{-1, 0, 1, 2, 3, 7, 16} {
		r := rand.New(rand.NewSource(int64(many)))
		m, l := &model{most: many}, ledger.New(many)
		for range 3000 {
			nonce, now := uint64(r.Intn(max(many, 0)*3/2+3)), int64(r.Intn(40)-10)
			if r.Intn(4) == 0 {
				nonce = nonces[r.Intn(len(nonces))]
			}
			owner, what := uint32(r.Intn(2)), uint32(r.Intn(2))
			switch r.Intn(7) {
			case 0, 1, 2:
				e := entry(nonce, owner, what, now+int64(r.Intn(30)-2))
				if got, want := l.Issue(e, now), m.issue(e, now); got != want {
					t.Fatalf("Issue of %v at %d: error %d, not %d", e, now, got, want)
				}
			case 3, 4:
				if got, want := l.Spend(nonce, owner, what, now), m.spend(nonce, owner, what, now); got != want {
					t.Fatalf("Spend of %d at %d: error %d, not %d", nonce, now, got, want)
				}
			case 5:
				back := []uint64{nonce, uint64(r.Intn(5)), nonce}[:r.Intn(4)]
				if got, want := l.Revoke(back...), m.revoke(back...); got != want {
					t.Fatalf("Revoke of %v: %d, not %d", back, got, want)
				}
			case 6:
				if got, want := l.Sweep(now-15), m.sweep(now-15); got != want {
					t.Fatalf("Sweep at %d: %d, not %d", now-15, got, want)
				}
			}
			m.like(t, l)
		}
	}
}

// The rules R2, R4 and R6, and what is kept

func TestAnErrorChangesNothing(t *testing.T) {
	a, b := entry(5, 7, 3, 9), entry(6, 7, 3, 20)
	l := with(2, a, b)
	for now := range int64(30) {
		for nonce := range uint64(9) {
			// Of another owner, so that none is spent; none is free, so that none is issued.
			l.Issue(entry(nonce, 8, 4, 25), now)
			l.Spend(nonce, 8, 3, now)
			l.Spend(nonce, 7, 4, now)
			if nonce == 5 && now > 9 || nonce == 6 && now > 20 {
				l.Spend(nonce, 7, 3, now)
			}
			if !holds(l, a, b) {
				t.Fatalf("at %d, %d: %v", now, nonce, l.Nonces())
			}
		}
	}
}

func TestAnswersAreTheirOwn(t *testing.T) {
	e := entry(5, 7, 3, 9)
	l := with(4, e, entry(2, 7, 3, 9), entry(9, 7, 3, 9))
	got, _ := l.Get(5)
	got.Owner, got.Nonce = 99, 99
	a, b := l.Nonces(), l.Nonces()
	a = append(a, 99, 99, 99)
	for i := range a[:cap(a)] {
		a[:cap(a)][i] = 99
	}
	if again, is := l.Get(5); again != e || !is || !slices.Equal(b, []uint64{2, 5, 9}) || !slices.Equal(l.Nonces(), b) {
		t.Errorf("%v, %v, %v", again, b, l.Nonces())
	}
	l.Issue(entry(4, 7, 3, 9), 0)
	l.Revoke(2)
	if !slices.Equal(b, []uint64{2, 5, 9}) {
		t.Errorf("an answer changes: %v", b)
	}
}

func TestWhatIsHandedInIsNotChanged(t *testing.T) {
	l := with(3, entry(5, 7, 3, 9), entry(2, 7, 3, 9))
	back := []uint64{9, 5, 5, 2}
	if l.Revoke(back...) != 2 || !slices.Equal(back, []uint64{9, 5, 5, 2}) {
		t.Errorf("%v", back)
	}
	e := entry(5, 7, 3, 9)
	l.Issue(e, 0)
	e.Owner = 8
	if got, _ := l.Get(5); got.Owner != 7 {
		t.Errorf("what is there changes: %v", got)
	}
}

func TestLedgersShareNothing(t *testing.T) {
	a, b := ledger.New(2), ledger.New(2)
	a.Issue(entry(5, 7, 3, 9), 0)
	if !holds(b) || b.Issue(entry(5, 8, 4, 10), 0) != api.OK || !holds(a, entry(5, 7, 3, 9)) {
		t.Error("what one ledger holds the other one does")
	}
	if a.Spend(5, 7, 3, 0) != api.OK || !holds(b, entry(5, 8, 4, 10)) {
		t.Error("what is spent in one ledger is in the other one")
	}
}

// inUse is how much memory is in use.
func inUse() int64 {
	runtime.GC()
	var m runtime.MemStats
	runtime.ReadMemStats(&m)
	return int64(m.HeapAlloc)
}

func TestWhatIsGoneIsNotKept(t *testing.T) {
	l := ledger.New(4)
	before := inUse()
	for i := range uint64(300000) {
		if e := l.Issue(entry(i, 7, 0, int64(i)), int64(i)); e != api.OK {
			t.Fatalf("%d: error %d", i, e)
		}
		switch i % 3 {
		case 0:
			l.Spend(i, 7, 0, int64(i))
		case 1:
			l.Revoke(i)
		case 2:
			l.Sweep(int64(i) + 1)
		}
	}
	if more := inUse() - before; more > 1<<20 || !holds(l) {
		t.Errorf("%d entries hold %d bytes of memory", l.Len(), more)
	}
}
