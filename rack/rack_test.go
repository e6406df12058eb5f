package rack_test

import (
	"math"
	"math/rand"
	"runtime"
	"slices"
	"strconv"
	"testing"

	"tiltyard/api"
	"tiltyard/rack"
)

const last = 1<<31 - 1

// numbers are ids at their edges, and numbers that are none.
var (
	ids   = []uint32{1, 2, 3, 255, 256, 65535, 65536, 1 << 30, last - 1, last}
	wrong = []uint32{0, 1 << 31, 1<<31 + 1, 1<<31 + 5, math.MaxUint32 - 1, math.MaxUint32}
)

// with is a rack for so many with something at each id: its own number.
func with(most int, ids ...uint32) *rack.Rack[uint32] {
	r := rack.New[uint32](most)
	for _, id := range ids {
		r.Add(id, id)
	}
	return r
}

// empty tells whether a rack for so many holds nothing.
func empty[V any](r *rack.Rack[V], most int) bool {
	free := uint32(1)
	if most == 0 {
		free = 0
	}
	next, is := r.Next(0)
	return r.Len() == 0 && r.Most() == most && len(r.Ids()) == 0 && r.Free() == free && next == 0 && !is
}

// model is what the chapter says of a rack, by a map alone.
type model struct {
	most   int
	things map[uint32]int
}

func (m *model) add(id uint32, v int, put bool) api.Errno {
	_, there := m.things[id]
	switch {
	case id < 1 || id > last:
		return api.ErrId
	case there && !put:
		return api.ErrExists
	case !there && len(m.things) >= m.most:
		return api.ErrFull
	}
	m.things[id] = v
	return api.OK
}

func (m *model) ids() []uint32 {
	var l []uint32
	for id := range m.things {
		l = append(l, id)
	}
	slices.Sort(l)
	return l
}

func (m *model) next(id uint32) (uint32, bool) {
	for _, other := range m.ids() {
		if other > id {
			return other, true
		}
	}
	return 0, false
}

func (m *model) free() uint32 {
	if len(m.things) >= m.most {
		return 0
	}
	id := uint32(1)
	for _, there := m.things[id]; there; _, there = m.things[id] {
		id++
	}
	return id
}

// like fails unless a rack is as the model is, whatever is asked of it.
func (m *model) like(t *testing.T, r *rack.Rack[int]) {
	t.Helper()
	if !slices.Equal(r.Ids(), m.ids()) || r.Len() != len(m.things) || r.Most() != m.most || r.Free() != m.free() {
		t.Fatalf("ids %v, not %v; %d of %d; free %d, not %d", r.Ids(), m.ids(), r.Len(), r.Most(), r.Free(), m.free())
	}
	asked := append(append(m.ids(), ids...), wrong...)
	for _, id := range asked {
		for _, near := range []uint32{id - 1, id, id + 1} {
			v, is := r.Get(near)
			if want, there := m.things[near]; v != want || is != there {
				t.Fatalf("Get of %d: %d, %v, not %d, %v", near, v, is, want, there)
			}
			next, is := r.Next(near)
			if want, there := m.next(near); next != want || is != there {
				t.Fatalf("Next of %d: %d, %v, not %d, %v", near, next, is, want, there)
			}
		}
	}
}

// P7.1

func TestRight(t *testing.T) {
	for _, id := range ids {
		if !rack.Right(id) {
			t.Errorf("%d is no id", id)
		}
	}
	for _, id := range wrong {
		if rack.Right(id) {
			t.Errorf("%d is an id", id)
		}
	}
}

func TestNew(t *testing.T) {
	for _, c := range []struct{ most, want int }{
		{0, 0}, {1, 1}, {2, 2}, {64, 64}, {1 << 20, 1 << 20}, {last, last}, {math.MaxInt, math.MaxInt},
		{-1, 0}, {-2, 0}, {-last, 0}, {math.MinInt, 0},
	} {
		if r := rack.New[string](c.most); r == nil || !empty(r, c.want) {
			t.Errorf("a rack for %d: %d of %d, free %d", c.most, r.Len(), r.Most(), r.Free())
		}
	}
}

func TestARackForNone(t *testing.T) {
	for _, most := range []int{0, -1, math.MinInt} {
		r := rack.New[int](most)
		for range 2 {
			if r.Put(1, 5) != api.ErrFull || r.Add(1, 5) != api.ErrFull || r.Put(0, 5) != api.ErrId || r.Add(0, 5) != api.ErrId {
				t.Errorf("a rack for %d takes something, or has another error", most)
			}
		}
		if v, is := r.Drop(1); v != 0 || is || !empty(r, 0) {
			t.Errorf("a rack for %d holds something", most)
		}
	}
}

func TestPut(t *testing.T) {
	for _, id := range ids {
		r := rack.New[string](2)
		if e := r.Put(id, "a"); e != api.OK {
			t.Errorf("Put at %d: error %d", id, e)
		}
		if v, is := r.Get(id); v != "a" || !is || r.Len() != 1 {
			t.Errorf("at %d stands %q, %v", id, v, is)
		}
		// Whatever stood there.
		if e := r.Put(id, "b"); e != api.OK {
			t.Errorf("Put at %d once more: error %d", id, e)
		}
		if v, is := r.Get(id); v != "b" || !is || r.Len() != 1 {
			t.Errorf("at %d stands %q, %v", id, v, is)
		}
	}
}

func TestPutInAFullRack(t *testing.T) {
	r := with(2, 9, 4)
	if r.Put(5, 1) != api.ErrFull || r.Put(last, 1) != api.ErrFull || r.Put(1, 1) != api.ErrFull {
		t.Error("a full rack takes more, or has another error")
	}
	// What is there is not one more.
	if r.Put(4, 44) != api.OK || r.Put(9, 99) != api.OK {
		t.Error("a full rack does not take what takes no room")
	}
	a, _ := r.Get(4)
	b, _ := r.Get(9)
	if a != 44 || b != 99 || !slices.Equal(r.Ids(), []uint32{4, 9}) {
		t.Errorf("%d and %d stand at %v", a, b, r.Ids())
	}
}

func TestAdd(t *testing.T) {
	for _, id := range ids {
		r := rack.New[string](2)
		if e := r.Add(id, "a"); e != api.OK {
			t.Errorf("Add at %d: error %d", id, e)
		}
		if e := r.Add(id, "b"); e != api.ErrExists {
			t.Errorf("Add at %d once more: error %d", id, e)
		}
		if v, is := r.Get(id); v != "a" || !is || r.Len() != 1 {
			t.Errorf("at %d stands %q, %v", id, v, is)
		}
	}
}

func TestTheExample(t *testing.T) {
	r := rack.New[string](2)
	if r.Add(9, "a") != api.OK || r.Add(4, "b") != api.OK {
		t.Error("Add at 9 and at 4")
	}
	if !slices.Equal(r.Ids(), []uint32{4, 9}) || r.Free() != 0 {
		t.Errorf("ids %v, free %d", r.Ids(), r.Free())
	}
	if r.Add(5, "c") != api.ErrFull || r.Put(4, "d") != api.OK {
		t.Error("Add at 5, Put at 4")
	}
}

// Of several errors the first one counts: ErrId, ErrExists, ErrFull.
func TestTheFirstErrorCounts(t *testing.T) {
	full, room := with(2, 4, 9), with(3, 4, 9)
	for _, id := range wrong {
		for _, r := range []*rack.Rack[uint32]{full, room, with(0)} {
			if r.Put(id, 1) != api.ErrId || r.Add(id, 1) != api.ErrId {
				t.Errorf("%d is an id to a rack with %d of %d", id, r.Len(), r.Most())
			}
		}
	}
	if full.Add(4, 1) != api.ErrExists || full.Add(9, 1) != api.ErrExists || full.Add(5, 1) != api.ErrFull {
		t.Error("in a full rack")
	}
	if room.Add(4, 1) != api.ErrExists || room.Add(5, 1) != api.OK {
		t.Error("in a rack with room")
	}
}

// P7.2

func TestGetAndDrop(t *testing.T) {
	things := map[uint32]string{1: "a", 4: "", 9: "b", last: "c"}
	r := rack.New[string](4)
	for _, id := range []uint32{9, last, 1, 4} {
		r.Add(id, things[id])
	}
	for range 2 {
		for id, want := range things {
			if v, is := r.Get(id); v != want || !is {
				t.Errorf("at %d stands %q, %v", id, v, is)
			}
		}
	}
	for _, id := range append([]uint32{2, 3, 5, 8, 10, last - 1}, wrong...) {
		if v, is := r.Get(id); v != "" || is {
			t.Errorf("Get of %d: %q, %v", id, v, is)
		}
		if v, is := r.Drop(id); v != "" || is || r.Len() != 4 {
			t.Errorf("Drop of %d: %q, %v, %d are left", id, v, is, r.Len())
		}
	}
	for i, id := range []uint32{4, last, 1, 9} {
		if v, is := r.Drop(id); v != things[id] || !is || r.Len() != 3-i {
			t.Errorf("Drop of %d: %q, %v, %d are left", id, v, is, r.Len())
		}
		if v, is := r.Drop(id); v != "" || is || r.Len() != 3-i {
			t.Errorf("Drop of %d once more: %q, %v, %d are left", id, v, is, r.Len())
		}
		if v, is := r.Get(id); v != "" || is {
			t.Errorf("at %d stands %q, %v still", id, v, is)
		}
	}
	if !empty(r, 4) {
		t.Errorf("%v are left", r.Ids())
	}
}

func TestDropMakesRoom(t *testing.T) {
	r := with(2, 4, 9)
	if r.Drop(4); r.Add(5, 5) != api.OK || r.Add(6, 6) != api.ErrFull {
		t.Error("as many go in as went out")
	}
	if r.Drop(5); r.Put(4, 4) != api.OK || r.Put(6, 6) != api.ErrFull || !slices.Equal(r.Ids(), []uint32{4, 9}) {
		t.Errorf("ids %v", r.Ids())
	}
}

func TestNext(t *testing.T) {
	r := with(5, 9, 4, last, 5)
	for _, c := range []struct {
		id, want uint32
		is       bool
	}{
		{0, 4, true}, {1, 4, true}, {3, 4, true}, {4, 5, true}, {5, 9, true}, {6, 9, true}, {8, 9, true},
		{9, last, true}, {10, last, true}, {last - 1, last, true},
		{last, 0, false}, {1 << 31, 0, false}, {1<<31 + 4, 0, false}, {math.MaxUint32 - 1, 0, false}, {math.MaxUint32, 0, false},
	} {
		if id, is := r.Next(c.id); id != c.want || is != c.is {
			t.Errorf("Next of %d: %d, %v, not %d, %v", c.id, id, is, c.want, c.is)
		}
	}
}

func TestFree(t *testing.T) {
	for _, c := range []struct {
		most int
		ids  []uint32
		want uint32
	}{
		{3, nil, 1},
		{3, []uint32{1}, 2},
		{3, []uint32{2}, 1},
		{3, []uint32{1, 2}, 3},
		{2, []uint32{1, 2}, 0},
		{2, []uint32{4, 9}, 0},
		{3, []uint32{4, 9}, 1},
		{9, []uint32{1, 2, 4, 5, 7}, 3},
		{9, []uint32{1, 2, 3, 5, 6, 8}, 4},
		{9, []uint32{last}, 1},
		{9, []uint32{last, 1}, 2},
		{9, []uint32{last - 1, last, 1, 2, 3}, 4},
	} {
		if got := with(c.most, c.ids...).Free(); got != c.want {
			t.Errorf("of %v, at most %d: %d, not %d", c.ids, c.most, got, c.want)
		}
	}
}

// What is free can be added, till nothing is.
func TestFreeTillFull(t *testing.T) {
	r := with(6, 3, 5)
	for _, want := range []uint32{1, 2, 4, 6, 0, 0} {
		id := r.Free()
		if e := r.Add(id, id); id != want || (e == api.OK) != (want != 0) {
			t.Errorf("%d is free, not %d: error %d", id, want, e)
		}
	}
	if !slices.Equal(r.Ids(), []uint32{1, 2, 3, 4, 5, 6}) {
		t.Errorf("ids %v", r.Ids())
	}
}

func TestAllRacksOfAFewIds(t *testing.T) {
	const most = 7
	for set := range 1 << most {
		for _, room := range []int{0, 1, 3} {
			m := &model{things: map[uint32]int{}}
			for id := uint32(1); id <= most; id++ {
				if set>>(id-1)&1 == 1 {
					m.things[id] = int(id) * 10
				}
			}
			m.most = len(m.things) + room
			rising, falling := rack.New[int](m.most), rack.New[int](m.most)
			l := m.ids()
			for i := range l {
				low, high := l[i], l[len(l)-1-i]
				if rising.Add(low, m.things[low]) != api.OK || falling.Put(high, m.things[high]) != api.OK {
					t.Fatalf("%v are not taken", l)
				}
			}
			m.like(t, rising)
			m.like(t, falling)
		}
	}
}

func TestNilRack(t *testing.T) {
	var r *rack.Rack[string]
	for _, id := range append(slices.Clone(ids), wrong...) {
		if p, a := r.Put(id, "a"), r.Add(id, "a"); p != api.ErrFull || a != api.ErrFull {
			t.Errorf("at %d: errors %d and %d", id, p, a)
		}
		v, is := r.Get(id)
		w, was := r.Drop(id)
		next, more := r.Next(id)
		if v != "" || is || w != "" || was || next != 0 || more {
			t.Errorf("at %d: %q, %v, %q, %v, %d, %v", id, v, is, w, was, next, more)
		}
	}
	if next, is := r.Next(0); next != 0 || is || r.Free() != 0 || len(r.Ids()) != 0 || r.Len() != 0 || r.Most() != 0 {
		t.Error("a nil rack holds something")
	}
}

// P7.3

func TestAnErrorChangesNothing(t *testing.T) {
	m := &model{most: 3, things: map[uint32]int{2: 20, 5: 50, 9: 90}}
	r := rack.New[int](3)
	for id, v := range m.things {
		r.Add(id, v)
	}
	for id := range uint32(12) {
		if e := r.Add(id, 7); e == api.OK {
			t.Errorf("%d is taken", id)
		}
		if _, there := m.things[id]; !there && r.Put(id, 7) == api.OK {
			t.Errorf("%d is taken", id)
		}
		m.like(t, r)
	}
	for _, id := range wrong {
		r.Drop(id)
		r.Add(id, 7)
		r.Put(id, 7)
		m.like(t, r)
	}
}

func TestNeverMoreThanMayBe(t *testing.T) {
	for most := range 20 {
		r := rack.New[int](most)
		for id := uint32(40); id > 0; id-- {
			r.Add(id, 1)
			r.Put(id+100, 2)
			if r.Len() > most || len(r.Ids()) != r.Len() {
				t.Fatalf("%d of %d, ids %v", r.Len(), most, r.Ids())
			}
		}
		if r.Len() != most {
			t.Errorf("%d of %d", r.Len(), most)
		}
	}
}

func TestAsTheModelIs(t *testing.T) {
	for _, most := range []int{0, 1, 2, 3, 7, 16, 64} {
		r := rand.New(rand.NewSource(int64(most)))
		m, k := &model{most: most, things: map[uint32]int{}}, rack.New[int](most)
		for step := range 500 {
			id := uint32(r.Intn(most*3/2 + 3))
			if r.Intn(10) == 0 {
				id = []uint32{0, last - 1, last, 1 << 31, math.MaxUint32}[r.Intn(5)]
			}
			if r.Intn(10) == 0 {
				id = m.free()
			}
			switch r.Intn(3) {
			case 0:
				if got, want := k.Add(id, step), m.add(id, step, false); got != want {
					t.Fatalf("Add of %d: error %d, not %d", id, got, want)
				}
			case 1:
				if got, want := k.Put(id, step), m.add(id, step, true); got != want {
					t.Fatalf("Put of %d: error %d, not %d", id, got, want)
				}
			case 2:
				got, is := k.Drop(id)
				if want, there := m.things[id]; got != want || is != there {
					t.Fatalf("Drop of %d: %d, %v, not %d, %v", id, got, is, want, there)
				}
				delete(m.things, id)
			}
			m.like(t, k)
		}
	}
}

func TestManyIds(t *testing.T) {
	const many = 30000
	r := rack.New[string](many)
	for _, i := range rand.New(rand.NewSource(1)).Perm(many) {
		if id := uint32(i)*2 + 2; r.Add(id, strconv.Itoa(i)) != api.OK {
			t.Fatalf("%d is not taken", id)
		}
	}
	id := uint32(0)
	for i := range many {
		next, is := r.Next(id)
		v, _ := r.Get(next)
		if !is || next != id+2 || v != strconv.Itoa(i) {
			t.Fatalf("behind %d comes %d with %q", id, next, v)
		}
		id = next
	}
	if next, is := r.Next(id); is || r.Len() != many || r.Free() != 0 {
		t.Errorf("behind all comes %d; %d of %d", next, r.Len(), many)
	}
	for i := range many {
		if v, is := r.Drop(uint32(i)*2 + 2); v != strconv.Itoa(i) || !is {
			t.Fatalf("at %d stood %q", i*2+2, v)
		}
	}
	if !empty(r, many) {
		t.Errorf("%d are left", r.Len())
	}
}

// What is gone through by Next may be dropped on the way.
func TestDroppedOnTheWay(t *testing.T) {
	r := with(9, 1, 3, 4, 8, 9)
	var gone []uint32
	for id, is := r.Next(0); is; id, is = r.Next(id) {
		gone = append(gone, id)
		r.Drop(id)
	}
	if !slices.Equal(gone, []uint32{1, 3, 4, 8, 9}) || !empty(r, 9) {
		t.Errorf("%v, %d are left", gone, r.Len())
	}
}

// What a rack holds may be of any type.

type pair struct {
	a int
	b []int
}

func keeps[V any](t *testing.T, name string, v V, same func(V) bool, nothing func(V) bool) {
	t.Helper()
	r := rack.New[V](2)
	if r.Add(7, v) != api.OK || r.Add(7, v) != api.ErrExists || r.Put(7, v) != api.OK {
		t.Errorf("%s: it is not taken", name)
	}
	if got, is := r.Get(7); !is || !same(got) {
		t.Errorf("%s: Get is another one", name)
	}
	if got, is := r.Get(8); is || !nothing(got) {
		t.Errorf("%s: something stands where nothing does", name)
	}
	if got, is := r.Drop(7); !is || !same(got) {
		t.Errorf("%s: Drop is another one", name)
	}
	if got, is := r.Drop(7); is || !nothing(got) {
		t.Errorf("%s: something is left", name)
	}
	var none *rack.Rack[V]
	if got, is := none.Get(7); is || !nothing(got) || none.Add(7, v) != api.ErrFull || none.Put(7, v) != api.ErrFull {
		t.Errorf("%s: a nil rack holds something", name)
	}
}

func TestOfAnyType(t *testing.T) {
	n := 5
	keeps(t, "numbers", n, func(v int) bool { return v == 5 }, func(v int) bool { return v == 0 })
	keeps(t, "noughts", 0, func(v int) bool { return v == 0 }, func(v int) bool { return v == 0 })
	keeps(t, "pointers", &n, func(v *int) bool { return v == &n }, func(v *int) bool { return v == nil })
	keeps(t, "pointers that are nil", nil, func(v *int) bool { return v == nil }, func(v *int) bool { return v == nil })
	keeps(t, "structs", pair{1, []int{2}}, func(v pair) bool { return v.a == 1 && v.b[0] == 2 }, func(v pair) bool { return v.a == 0 && v.b == nil })
	keeps(t, "slices", []int{1, 2}, func(v []int) bool { return slices.Equal(v, []int{1, 2}) }, func(v []int) bool { return v == nil })
	keeps(t, "maps", map[int]int{1: 2}, func(v map[int]int) bool { return v[1] == 2 }, func(v map[int]int) bool { return v == nil })
	keeps(t, "functions", func() int { return 3 }, func(v func() int) bool { return v() == 3 }, func(v func() int) bool { return v == nil })
	keeps(t, "anything", any("x"), func(v any) bool { return v == "x" }, func(v any) bool { return v == nil })
	keeps(t, "arrays", [3]string{"a", "", "b"}, func(v [3]string) bool { return v == [3]string{"a", "", "b"} }, func(v [3]string) bool { return v == [3]string{} })
	keeps(t, "things of no bytes", struct{}{}, func(struct{}) bool { return true }, func(struct{}) bool { return true })
}

// The rules R4 and R6, and what is kept

func TestIdsShareNothing(t *testing.T) {
	r := with(8, 2, 4, 6)
	a, b := r.Ids(), r.Ids()
	a = append(a, 99, 99, 99)
	for i := range a[:cap(a)] {
		a[:cap(a)][i] = 99
	}
	if !slices.Equal(b, []uint32{2, 4, 6}) || !slices.Equal(r.Ids(), b) {
		t.Errorf("%v, %v", b, r.Ids())
	}
	b = append(b, 7)
	r.Add(8, 8)
	r.Drop(2)
	r.Add(1, 1)
	if !slices.Equal(b, []uint32{2, 4, 6, 7}) || !slices.Equal(r.Ids(), []uint32{1, 4, 6, 8}) {
		t.Errorf("%v, %v", b, r.Ids())
	}
}

func TestWhatIsTakenOutIsItsOwn(t *testing.T) {
	r := rack.New[pair](2)
	p := pair{a: 1}
	r.Add(3, p)
	p.a = 2
	got, _ := r.Get(3)
	got.a = 3
	if v, _ := r.Get(3); v.a != 1 {
		t.Errorf("what stands there changes: %d", v.a)
	}
}

func TestRacksShareNothing(t *testing.T) {
	a, b := rack.New[int](2), rack.New[int](2)
	a.Add(1, 5)
	if !empty(b, 2) || b.Add(1, 6) != api.OK {
		t.Error("what one rack holds the other one does")
	}
	if v, _ := a.Get(1); v != 5 {
		t.Errorf("at 1 stands %d", v)
	}
	if b.Drop(1); a.Len() != 1 || b.Len() != 0 {
		t.Error("what one rack drops the other one does")
	}
}

func TestToAskChangesNothing(t *testing.T) {
	m := &model{most: 4, things: map[uint32]int{2: 20, 5: 50, 9: 90}}
	r := rack.New[int](4)
	for id, v := range m.things {
		r.Add(id, v)
	}
	for range 3 {
		m.like(t, r)
	}
}

// inUse is how much memory is in use.
func inUse() int64 {
	runtime.GC()
	var m runtime.MemStats
	runtime.ReadMemStats(&m)
	return int64(m.HeapAlloc)
}

func TestWhatIsDroppedIsNotKept(t *testing.T) {
	const large, many = 1 << 20, 32
	r := rack.New[[]byte](many)
	before := inUse()
	for id := uint32(1); id <= many; id++ {
		r.Add(id, make([]byte, large))
	}
	for id := uint32(1); id <= many; id++ {
		r.Put(id, make([]byte, large))
	}
	for id := uint32(many); id > 1; id-- {
		r.Drop(id)
	}
	if more := inUse() - before; more > 4*large {
		t.Errorf("a rack with one thing of %d bytes holds %d bytes of memory", large, more)
	}
	if v, is := r.Get(1); len(v) != large || !is {
		t.Error("what was not dropped is not kept")
	}
}

func TestARackForManyTakesNoRoomAhead(t *testing.T) {
	before := inUse()
	r := rack.New[[1024]byte](math.MaxInt)
	if e := r.Add(last, [1024]byte{1}); e != api.OK {
		t.Errorf("error %d", e)
	}
	if more := inUse() - before; more > 1<<20 {
		t.Errorf("%d bytes of memory", more)
	}
	if v, is := r.Get(last); v[0] != 1 || !is || r.Most() != math.MaxInt {
		t.Error("it is not kept")
	}
}
