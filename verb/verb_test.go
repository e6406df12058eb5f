package verb_test

import (
	"bytes"
	"encoding/binary"
	"math"
	"math/rand"
	"reflect"
	"slices"
	"strings"
	"testing"

	"tiltyard/api"
	"tiltyard/field"
	"tiltyard/verb"
)

type kind struct {
	kind        int
	name, shape string
	side        int
}

// kinds are the chapter's.
var kinds = []kind{
	{1, "login", "s", 1},
	{2, "ping", "d", 1},
	{3, "friend-ask", "d", 1},
	{4, "friend-accept", "d", 1},
	{5, "friend-refuse", "d", 1},
	{6, "friend-remove", "d", 1},
	{7, "block", "d", 1},
	{8, "unblock", "d", 1},
	{9, "friends", "", 1},
	{10, "invite", "d", 1},
	{11, "join", "d", 1},
	{12, "refuse", "d", 1},
	{13, "leave", "", 1},
	{14, "kick", "d", 1},
	{15, "lead", "d", 1},
	{16, "party", "", 1},
	{17, "queue", "b", 1},
	{18, "cancel", "", 1},
	{19, "accept", "", 1},
	{20, "decline", "", 1},
	{21, "token", "", 1},
	{22, "rating", "d", 1},
	{23, "penalty", "", 1},
	{24, "status", "d", 1},
	{25, "logout", "", 1},
	{26, "time", "", 1},
	{27, "match", "", 1},
	{64, "ok", "b", 2},
	{65, "error", "bb", 2},
	{66, "welcome", "ddb", 2},
	{67, "pong", "d", 2},
	{68, "friend-list", "lll", 2},
	{69, "party-is", "ddl", 2},
	{70, "rating-is", "dd", 2},
	{71, "penalty-is", "bq", 2},
	{72, "status-is", "db", 2},
	{73, "time-is", "q", 2},
	{74, "match-is", "dwbb", 2},
	{96, "friend-asked", "d", 2},
	{97, "friend-now", "db", 2},
	{98, "friend-gone", "d", 2},
	{99, "presence", "db", 2},
	{100, "invited", "dd", 2},
	{101, "party-now", "ddl", 2},
	{102, "party-over", "d", 2},
	{103, "queued", "b", 2},
	{104, "unqueued", "b", 2},
	{105, "check", "dq", 2},
	{106, "check-over", "db", 2},
	{107, "seat", "dwbbqs", 2},
	{108, "live", "d", 2},
	{109, "over", "dbd", 2},
	{110, "penalised", "bbq", 2},
	{111, "bye", "b", 2},
	{160, "start", "dbll", 3},
	{161, "filled", "dbl", 3},
	{162, "lost", "dd", 3},
	{163, "drain", "d", 3},
	{164, "joined", "dd", 3},
	{165, "refused", "bb", 3},
	{192, "hello", "", 4},
	{193, "beat", "", 4},
	{194, "up", "", 4},
	{195, "come", "s", 4},
	{196, "left", "d", 4},
	{197, "result", "db", 4},
	{198, "freed", "", 4},
}

// numbers are those that are tried as kinds: all that a byte can be, and those below, above and far off.
func numbers() []int {
	all := []int{math.MinInt, math.MinInt32, -65536 + 17, -256 + 17, math.MaxInt32, math.MaxInt, 1 << 16, 1<<16 + 17, math.MaxInt - 255 + 17, math.MinInt + 17}
	for n := -300; n <= 1000; n++ {
		all = append(all, n)
	}
	return all
}

// of finds a number in the chapter's table.
func of(n int) (kind, bool) {
	i := slices.IndexFunc(kinds, func(k kind) bool { return k.kind == n })
	if i < 0 {
		return kind{}, false
	}
	return kinds[i], true
}

// same holds messages against each other, for which an empty list and a nil one are one.
func same(a, b verb.Msg) bool {
	return a.Kind == b.Kind && slices.Equal(a.N, b.N) && slices.Equal(a.S, b.S) && slices.EqualFunc(a.L, b.L, slices.Equal[[]uint32])
}

func none(m verb.Msg) bool { return reflect.DeepEqual(m, verb.Msg{}) }

// sample is a message of a kind, drawn, and its bytes as the chapters put them.
func sample(r *rand.Rand, k kind) (verb.Msg, []byte) {
	m, b := verb.Msg{Kind: k.kind}, []byte{byte(k.kind)}
	for _, letter := range k.shape {
		switch letter {
		case 'b':
			n := r.Uint64() >> 56
			m.N, b = append(m.N, n), append(b, byte(n))
		case 'w':
			n := r.Uint64() >> 48
			m.N, b = append(m.N, n), binary.BigEndian.AppendUint16(b, uint16(n))
		case 'd':
			n := r.Uint64() >> 32
			m.N, b = append(m.N, n), binary.BigEndian.AppendUint32(b, uint32(n))
		case 'q':
			n := r.Uint64()
			m.N, b = append(m.N, n), binary.BigEndian.AppendUint64(b, n)
		case 's':
			text := make([]byte, r.Intn(256))
			r.Read(text)
			m.S, b = append(m.S, string(text)), append(append(b, byte(len(text))), text...)
		case 'l':
			list := make([]uint32, r.Intn(256))
			b = append(b, byte(len(list)))
			for i := range list {
				list[i] = r.Uint32()
				b = binary.BigEndian.AppendUint32(b, list[i])
			}
			m.L = append(m.L, list)
		}
	}
	return m, b
}

// P4.1

func TestKindsAndTheirNames(t *testing.T) {
	for _, n := range numbers() {
		k, is := of(n) // nothing, if there is none
		if got := verb.Name(n); got != k.name {
			t.Errorf("the name of %d is %q, not %q", n, got, k.name)
		}
		if shape, so := verb.Shape(n); shape != k.shape || so != is {
			t.Errorf("the shape of %d is %q, %v, not %q", n, shape, so, k.shape)
		}
		if got := verb.Side(n); got != k.side {
			t.Errorf("the side of %d is %d, not %d", n, got, k.side)
		}
	}
	for _, k := range kinds {
		if got, is := verb.Kind(k.name); got != k.kind || !is {
			t.Errorf("the kind of %q is %d, %v, not %d", k.name, got, is, k.kind)
		}
		if !field.Right(k.shape) {
			t.Errorf("%q of %q is no shape", k.shape, k.name)
		}
	}
}

func TestKindsAreThoseOfTheConstants(t *testing.T) {
	for n, name := range map[int]string{
		api.KLogin: "login", api.KPing: "ping", api.KBlock: "block", api.KFriends: "friends", api.KInvite: "invite",
		api.KQueue: "queue", api.KStatus: "status", api.KMatch: "match", api.KOk: "ok", api.KError: "error",
		api.KFriendList: "friend-list", api.KMatchIs: "match-is", api.KFriendAsked: "friend-asked", api.KCheckOver: "check-over",
		api.KPenalised: "penalised", api.KBye: "bye", api.KStart: "start", api.KDrain: "drain", api.KRefused: "refused",
		api.KHello: "hello", api.KResult: "result", api.KFreed: "freed",
	} {
		if got := verb.Name(n); got != name {
			t.Errorf("the name of %d is %q, not %q", n, got, name)
		}
	}
}

func TestNamesThatAreNone(t *testing.T) {
	names := []string{"", " ", "-", "x", "s", "d", "1", "0", "login\x00", "Login", "LOGIN", "KLogin", "friend", "party_is", "friend ask", "friendask", "é", "\xff", strings.Repeat("login", 1000)}
	for _, k := range kinds {
		names = append(names, k.name+" ", " "+k.name, k.name+"-", k.name+k.name, k.name[1:], k.name[:len(k.name)-1], strings.ToUpper(k.name))
	}
	for _, name := range names {
		if slices.ContainsFunc(kinds, func(k kind) bool { return k.name == name }) {
			continue // part of a name may be one, too
		}
		if n, is := verb.Kind(name); n != 0 || is {
			t.Errorf("%q is the name of %d, %v", name, n, is)
		}
	}
}

// P4.2

func TestMake(t *testing.T) {
	for _, n := range numbers() {
		for _, want := range [][]uint64{nil, {}, {0}, {7}, {1, 256, math.MaxUint64}, make([]uint64, 100)} {
			m := verb.Make(n, want...)
			if m.Kind != n || !slices.Equal(m.N, want) || len(m.S) != 0 || len(m.L) != 0 {
				t.Fatalf("Make(%d, %v) is %v", n, want, m)
			}
		}
	}
	if m := verb.Make(api.KFriendList); m.Kind != 68 || len(m.N) != 0 || len(m.S) != 0 || len(m.L) != 0 {
		t.Errorf("Make without numbers is %v", m)
	}
}

func TestWithAndAnd(t *testing.T) {
	m := verb.Make(api.KSeat, 1, 2)
	for _, c := range []struct {
		got  verb.Msg
		want field.Fields
	}{
		{m.With(), field.Fields{}},
		{m.And(), field.Fields{}},
		{m.With("x"), field.Fields{S: []string{"x"}}},
		{m.With("x", "", "y"), field.Fields{S: []string{"x", "", "y"}}},
		{m.With("x").With("y", "x"), field.Fields{S: []string{"x", "y", "x"}}},
		{m.With("x").With().With("y"), field.Fields{S: []string{"x", "y"}}},
		{m.And(nil), field.Fields{L: [][]uint32{nil}}},
		{m.And([]uint32{}), field.Fields{L: [][]uint32{nil}}},
		{m.And([]uint32{1}, nil), field.Fields{L: [][]uint32{{1}, nil}}},
		{m.And([]uint32{1}, nil).And([]uint32{2, 3}), field.Fields{L: [][]uint32{{1}, nil, {2, 3}}}},
		{m.And([]uint32{1}).And().And([]uint32{1}), field.Fields{L: [][]uint32{{1}, {1}}}},
		{m.With("x").And([]uint32{1}), field.Fields{S: []string{"x"}, L: [][]uint32{{1}}}},
		{m.And([]uint32{1}).With("x"), field.Fields{S: []string{"x"}, L: [][]uint32{{1}}}},
		{m.And([]uint32{1}).With("x").And([]uint32{2}).With("y"), field.Fields{S: []string{"x", "y"}, L: [][]uint32{{1}, {2}}}},
	} {
		c.want.N = []uint64{1, 2}
		if !same(c.got, verb.Msg{Kind: api.KSeat, Fields: c.want}) {
			t.Errorf("%v, not %v", c.got, c.want)
		}
	}
	if !same(m, verb.Make(api.KSeat, 1, 2)) {
		t.Errorf("the message is %v", m)
	}
	if got := verb.Make(-5, 3).With("a").And([]uint32{4}); got.Kind != -5 || got.N[0] != 3 || got.S[0] != "a" || got.L[0][0] != 4 {
		t.Errorf("of no kind: %v", got)
	}
	if got := (verb.Msg{}).With("a").And(nil); got.Kind != 0 || len(got.N) != 0 || len(got.S) != 1 || len(got.L) != 1 {
		t.Errorf("of nothing: %v", got)
	}
}

// roomy is a message whose lists have room behind them, into which a careless append would write.
func roomy() verb.Msg {
	return verb.Msg{Kind: 9, Fields: field.Fields{
		N: append(make([]uint64, 0, 8), 1, 2),
		S: append(make([]string, 0, 8), "a", "b"),
		L: append(make([][]uint32, 0, 8), append(make([]uint32, 0, 8), 3, 4), append(make([]uint32, 0, 8), 5)),
	}}
}

func TestAMessageStaysAsItWas(t *testing.T) {
	m := roomy()
	a, b := m.With("x"), m.With("y", "z")
	c, d := m.And([]uint32{7}), m.And([]uint32{8}, []uint32{9})
	if !reflect.DeepEqual(m, roomy()) || m.S[:3][2] != "" || m.L[:3][2] != nil {
		t.Errorf("With or And changes its message: %v", m)
	}
	if !slices.Equal(a.S, []string{"a", "b", "x"}) || !slices.Equal(b.S, []string{"a", "b", "y", "z"}) {
		t.Errorf("two of one message share their texts: %v %v", a.S, b.S)
	}
	if len(c.L) != 3 || c.L[2][0] != 7 || len(d.L) != 4 || d.L[2][0] != 8 || d.L[3][0] != 9 {
		t.Errorf("two of one message share their lists: %v %v", c.L, d.L)
	}
}

// spoil changes all that a message holds, and what is behind it.
func spoil(m verb.Msg) {
	for i := range m.N {
		m.N[i] = 99
	}
	for i := range m.S {
		m.S[i] = "spoilt"
	}
	for i := range m.L {
		for j := range m.L[i] {
			m.L[i][j] = 99
		}
		_ = append(m.L[i], 99, 99)
		m.L[i] = nil
	}
	_, _, _ = append(m.N, 99), append(m.S, "spoilt"), append(m.L, nil)
}

func TestMessagesShareNothing(t *testing.T) {
	change := map[string]func(verb.Msg) verb.Msg{
		"With":   func(m verb.Msg) verb.Msg { return m.With("x") },
		"And":    func(m verb.Msg) verb.Msg { return m.And([]uint32{7}) },
		"With()": func(m verb.Msg) verb.Msg { return m.With() },
		"And()":  func(m verb.Msg) verb.Msg { return m.And() },
	}
	for name, of := range change {
		m := roomy()
		a, b := of(m), of(m)
		spoil(a)
		if !reflect.DeepEqual(m, roomy()) {
			t.Errorf("%s answers what its message holds: %v", name, m)
		}
		if !same(b, of(roomy())) {
			t.Errorf("two answers of %s share memory: %v", name, b)
		}
		spoil(m)
		if !same(b, of(roomy())) {
			t.Errorf("what %s answered changes with its message: %v", name, b)
		}
	}
}

func TestWhatIsHandedInIsNotKept(t *testing.T) {
	numbers := append(make([]uint64, 0, 8), 1, 2)
	m := verb.Make(1, numbers...)
	texts := append(make([]string, 0, 8), "a", "b")
	w := m.With(texts...)
	one, two := append(make([]uint32, 0, 8), 1, 2), []uint32{3}
	lists := append(make([][]uint32, 0, 8), one, two, one)
	l := m.And(lists...)
	l.L[0][0] = 50
	_ = append(l.L[0], 51)
	if l.L[2][0] != 1 || one[0] != 1 || l.L[1][0] != 3 {
		t.Errorf("a list is not copied: %v", l.L)
	}
	l = m.And(lists...)
	numbers[0], texts[0], one[0], two[0], lists[1] = 9, "z", 9, 9, nil
	_, _, _ = append(numbers, 9), append(texts, "z"), append(lists, one)
	if !slices.Equal(m.N, []uint64{1, 2}) {
		t.Errorf("Make keeps its numbers: %v", m)
	}
	if !slices.Equal(w.N, []uint64{1, 2}) || !slices.Equal(w.S, []string{"a", "b"}) {
		t.Errorf("With keeps its texts: %v", w)
	}
	if !slices.EqualFunc(l.L, [][]uint32{{1, 2}, {3}, {1, 2}}, slices.Equal[[]uint32]) {
		t.Errorf("And keeps its lists: %v", l)
	}
	spoil(w)
	spoil(l)
	spoil(m)
	if numbers[1] != 2 || texts[1] != "b" || one[1] != 2 || len(lists[0]) != 2 || len(lists[2]) != 2 {
		t.Error("what was handed in changes with the message")
	}
}

// P4.3

func TestExamples(t *testing.T) {
	for _, c := range []struct {
		m    verb.Msg
		want string
	}{
		{verb.Make(17, 2), "\x11\x02"},
		{verb.Make(65, 17, 19), "\x41\x11\x13"},
		{verb.Make(1).With("\x07\x08"), "\x01\x02\x07\x08"},
		{verb.Make(1).With(""), "\x01\x00"},
		{verb.Make(9), "\x09"},
		{verb.Make(198), "\xc6"},
		{verb.Make(66, 7, 1500, 1), "\x42\x00\x00\x00\x07\x00\x00\x05\xdc\x01"},
		{verb.Make(68).And([]uint32{1}, nil, []uint32{256, 2}), "\x44\x01\x00\x00\x00\x01\x00\x02\x00\x00\x01\x00\x00\x00\x00\x02"},
		{verb.Make(69, 1, 2).And(nil), "\x45\x00\x00\x00\x01\x00\x00\x00\x02\x00"},
		{verb.Make(73, math.MaxUint64), "\x49\xff\xff\xff\xff\xff\xff\xff\xff"},
		{verb.Make(107, 1, 2, 3, 4, 5).With("t"), "\x6b\x00\x00\x00\x01\x00\x02\x03\x04\x00\x00\x00\x00\x00\x00\x00\x05\x01t"},
		{verb.Make(160, 1, 0).And([]uint32{7}, []uint32{8}), "\xa0\x00\x00\x00\x01\x00\x01\x00\x00\x00\x07\x01\x00\x00\x00\x08"},
	} {
		if b, e := verb.Encode(c.m); e != api.OK || string(b) != c.want {
			t.Errorf("Encode of %v: %v, error %d", c.m, b, e)
		}
		if m, e := verb.Decode([]byte(c.want)); e != api.OK || !same(m, c.m) {
			t.Errorf("Decode of %q: %v, error %d", c.want, m, e)
		}
	}
}

func TestEncodeAndDecodeOfEachKind(t *testing.T) {
	r := rand.New(rand.NewSource(1))
	for _, k := range kinds {
		for range 20 {
			m, want := sample(r, k)
			if b, e := verb.Encode(m); e != api.OK || !bytes.Equal(b, want) {
				t.Errorf("Encode of %q, %v: %v, error %d", k.name, m, b, e)
			}
			if got, e := verb.Decode(want); e != api.OK || !same(got, m) {
				t.Errorf("Decode of %q, %v: %v, error %d", k.name, want, got, e)
			}
		}
	}
}

func TestEncodeOfNoKind(t *testing.T) {
	for _, n := range numbers() {
		if _, is := of(n); is {
			continue
		}
		// The kind counts ahead of the fields, whatever they are.
		for _, m := range []verb.Msg{verb.Make(n), verb.Make(n, 7), verb.Make(n, 256, 1<<40), verb.Make(n).With(strings.Repeat("a", 256)), verb.Make(n).And(nil)} {
			if b, e := verb.Encode(m); e != api.ErrKind || b != nil {
				t.Fatalf("Encode of %d: %v, error %d", n, b, e)
			}
		}
	}
}

func TestEncodeOfOtherFields(t *testing.T) {
	r := rand.New(rand.NewSource(2))
	for _, k := range kinds {
		m, _ := sample(r, k)
		wrong := []verb.Msg{m.With(""), m.And(nil), m.With("a").And(nil), m.And(nil, nil)}
		if len(m.N)+len(m.S)+len(m.L) > 0 {
			wrong = append(wrong, verb.Make(k.kind))
		}
		for _, change := range []func(f *field.Fields){
			func(f *field.Fields) { f.N = append(slices.Clone(f.N), 0) },
			func(f *field.Fields) { f.N = append(slices.Clone(f.N), 1<<63) },
			func(f *field.Fields) { f.N = f.N[:max(len(f.N)-1, 0)] },
			func(f *field.Fields) { f.S = f.S[:max(len(f.S)-1, 0)] },
			func(f *field.Fields) { f.L = f.L[:max(len(f.L)-1, 0)] },
			func(f *field.Fields) { f.N, f.S = f.N[:max(len(f.N)-1, 0)], append(slices.Clone(f.S), "a") },
		} {
			x := m
			change(&x.Fields)
			if len(x.N) != len(m.N) || len(x.S) != len(m.S) || len(x.L) != len(m.L) {
				wrong = append(wrong, x)
			}
		}
		for _, x := range wrong {
			if b, e := verb.Encode(x); e != api.ErrShape || b != nil {
				t.Errorf("Encode of %q with %d numbers, %d texts, %d lists: %v, error %d", k.name, len(x.N), len(x.S), len(x.L), b, e)
			}
		}
	}
}

func TestEncodeOfFieldsThatDoNotFit(t *testing.T) {
	list := make([]uint32, 256)
	for _, m := range []verb.Msg{
		verb.Make(17, 256),
		verb.Make(17, math.MaxUint64),
		verb.Make(2, 1<<32),
		verb.Make(65, 17, 256),
		verb.Make(65, 256, 17),
		verb.Make(74, 1, 65536, 1, 1),
		verb.Make(71, 256, 1),
		verb.Make(1).With(strings.Repeat("a", 256)),
		verb.Make(195).With(strings.Repeat("é", 128)),
		verb.Make(107, 1, 2, 3, 4, 5).With(strings.Repeat("a", 1000)),
		verb.Make(68).And(list, nil, nil),
		verb.Make(68).And(nil, list, nil),
		verb.Make(68).And(nil, nil, list),
		verb.Make(160, 1, 256).And(nil, nil),
	} {
		if b, e := verb.Encode(m); e != api.ErrRange || b != nil {
			t.Errorf("Encode of %d, %v: %v, error %d", m.Kind, m.N, b, e)
		}
	}
}

func TestTextsAndListsJustFit(t *testing.T) {
	text, list := strings.Repeat("é", 127)+"x", make([]uint32, 255)
	for i := range list {
		list[i] = uint32(i) * 0x01010101
	}
	for _, c := range []struct {
		m    verb.Msg
		many int
	}{
		{verb.Make(1).With(text), 1 + 1 + 255},
		{verb.Make(107, 1, 2, 3, 4, 5).With(text), 1 + 4 + 2 + 1 + 1 + 8 + 1 + 255},
		{verb.Make(161, 1, 2).And(list), 1 + 4 + 1 + 1 + 4*255},
		{verb.Make(68).And(list, list, list), 1 + 3*(1+4*255)},
	} {
		b, e := verb.Encode(c.m)
		if e != api.OK || len(b) != c.many {
			t.Errorf("Encode of %d: %d bytes, not %d, error %d", c.m.Kind, len(b), c.many, e)
		}
		if m, e := verb.Decode(b); e != api.OK || !same(m, c.m) {
			t.Errorf("%d is not decoded as it was, error %d", c.m.Kind, e)
		}
	}
	for _, m := range []verb.Msg{verb.Make(17, 255), verb.Make(2, math.MaxUint32), verb.Make(74, math.MaxUint32, math.MaxUint16, 255, 255), verb.Make(73, math.MaxUint64)} {
		b, e := verb.Encode(m)
		if back, again := verb.Decode(b); e != api.OK || again != api.OK || !same(back, m) {
			t.Errorf("%v is not decoded as it was, errors %d %d", m, e, again)
		}
	}
}

func TestDecodeOfNothing(t *testing.T) {
	for _, b := range [][]byte{nil, {}, make([]byte, 0, 8)} {
		if m, e := verb.Decode(b); e != api.ErrShort || !none(m) {
			t.Errorf("Decode of nothing: %v, error %d", m, e)
		}
	}
}

func TestDecodeOfNoKind(t *testing.T) {
	for n := range 256 {
		if _, is := of(n); is {
			continue
		}
		for _, more := range []int{0, 1, 2, 5, 2000} {
			b := append([]byte{byte(n)}, make([]byte, more)...)
			if m, e := verb.Decode(b); e != api.ErrKind || !none(m) {
				t.Errorf("Decode of %d and %d bytes: %v, error %d", n, more, m, e)
			}
		}
	}
}

func TestDecodeOfBytesCutShortOrTooLong(t *testing.T) {
	r := rand.New(rand.NewSource(3))
	for _, k := range kinds {
		_, b := sample(r, k)
		for many := range b {
			if m, e := verb.Decode(b[:many]); e != api.ErrShort || !none(m) {
				t.Fatalf("%q, %d of %d bytes: %v, error %d", k.name, many, len(b), m, e)
			}
		}
		for more := 1; more < 10; more++ {
			if m, e := verb.Decode(append(slices.Clone(b), make([]byte, more)...)); e != api.ErrLong || !none(m) {
				t.Errorf("%q, %d bytes left: %v, error %d", k.name, more, m, e)
			}
		}
	}
}

func TestDecodeOfWrongBytes(t *testing.T) {
	for _, c := range []struct {
		b string
		e api.Errno
	}{
		{"\x09", api.OK},
		{"\x09\x01", api.ErrLong},
		{"\xc0\x00", api.ErrLong},
		{"\x11", api.ErrShort},
		{"\x11\x02\x03", api.ErrLong},
		{"\x41\x11", api.ErrShort},
		{"\x01", api.ErrShort},
		{"\x01\x02a", api.ErrShort},
		{"\x01\xff" + strings.Repeat("a", 254), api.ErrShort},
		{"\x01\x00a", api.ErrLong},
		{"\x44\x00\x00", api.ErrShort},
		{"\x44\x00\x01\x00\x00\x00\x01", api.ErrShort},
		{"\x44\x00\x00\x00\x00", api.ErrLong},
		{"\x00", api.ErrKind},
		{"\xc8", api.ErrKind},
		{"\xff\xff", api.ErrKind},
	} {
		if m, e := verb.Decode([]byte(c.b)); e != c.e || e != api.OK && !none(m) {
			t.Errorf("Decode of %q: %v, error %d, not %d", c.b, m, e, c.e)
		}
	}
}

// P4.4

func TestWhatIsDecodedIsEncodedAsItWas(t *testing.T) {
	r := rand.New(rand.NewSource(4))
	decoded := 0
	for range 200000 {
		b := make([]byte, r.Intn(12))
		for i := range b {
			b[i] = byte(r.Intn(4))
		}
		if len(b) > 0 {
			b[0] = byte(r.Intn(256))
		}
		m, e := verb.Decode(b)
		if e != api.OK {
			continue
		}
		decoded++
		if back, e := verb.Encode(m); e != api.OK || !bytes.Equal(back, b) {
			t.Fatalf("%v is encoded as %v, error %d", b, back, e)
		}
	}
	if decoded < 1000 {
		t.Errorf("only %d were decoded", decoded)
	}
}

func TestWhatIsEncodedIsDecodedAsItWas(t *testing.T) {
	r := rand.New(rand.NewSource(5))
	encoded := 0
	for range 200000 {
		m := verb.Make(r.Intn(200))
		for range r.Intn(4) {
			m.N = append(m.N, r.Uint64()>>r.Intn(64))
		}
		for range r.Intn(2) {
			m = m.With(strings.Repeat("a", r.Intn(4)))
		}
		for range r.Intn(3) {
			m = m.And(make([]uint32, r.Intn(4)))
		}
		b, e := verb.Encode(m)
		if e != api.OK {
			continue
		}
		encoded++
		if back, e := verb.Decode(b); e != api.OK || !same(back, m) {
			t.Fatalf("%v is decoded as %v, error %d", m, back, e)
		}
	}
	if encoded < 1000 {
		t.Errorf("only %d were encoded", encoded)
	}
}

func TestNoTwoKindsHaveOneName(t *testing.T) {
	named := map[string]int{}
	for _, n := range numbers() {
		name := verb.Name(n)
		if name == "" {
			continue
		}
		if other, is := named[name]; is && other != n {
			t.Errorf("%d and %d are both %q", other, n, name)
		}
		named[name] = n
		if back, is := verb.Kind(name); back != n || !is {
			t.Errorf("%q, of %d, is the name of %d", name, n, back)
		}
	}
	if len(named) != len(kinds) {
		t.Errorf("there are %d names, not %d", len(named), len(kinds))
	}
}

// The rules R4 and R6

func TestEncodeKeepsItsMessage(t *testing.T) {
	for _, m := range []verb.Msg{
		{Kind: 69, Fields: field.Fields{N: []uint64{1, 2}, L: [][]uint32{{3, 4}}}},
		{Kind: 107, Fields: field.Fields{N: []uint64{1, 2, 3, 4, 5}, S: []string{"a"}}},
		{Kind: 69, Fields: field.Fields{N: []uint64{1, 1 << 40}, L: [][]uint32{{3, 4}}}},
		{Kind: 300, Fields: field.Fields{N: []uint64{1}, S: []string{"a"}, L: [][]uint32{{3}}}},
	} {
		was := m.With().And()
		a, e := verb.Encode(m)
		b, again := verb.Encode(m)
		if !same(m, was) || !bytes.Equal(a, b) || e != again {
			t.Errorf("Encode of %v changes it, or answers otherwise the second time", was)
		}
		if len(a) > 0 {
			a[0]++
			if a[0] == b[0] {
				t.Errorf("two answers share their bytes")
			}
		}
	}
}

func TestDecodeKeepsItsBytes(t *testing.T) {
	const text = "\xa0\x00\x00\x00\x01\x00\x01\x00\x00\x00\x07\x01\x00\x00\x00\x08"
	want := verb.Make(160, 1, 0).And([]uint32{7}, []uint32{8})
	b := []byte(text)
	m, _ := verb.Decode(b)
	n, _ := verb.Decode(b)
	if string(b) != text {
		t.Errorf("Decode changes its bytes: %q", b)
	}
	for i := range b {
		b[i] = 77
	}
	if !same(m, want) {
		t.Errorf("what was decoded changes with its bytes: %v", m)
	}
	spoil(m)
	if !same(n, want) {
		t.Errorf("two answers share memory: %v", n)
	}
	b = []byte("\x01\x02ab")
	m, _ = verb.Decode(b)
	b[2] = 'z'
	if m.S[0] != "ab" {
		t.Errorf("a text changes with its bytes: %v", m)
	}
}
