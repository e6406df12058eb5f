package frame_test

import (
	"bytes"
	"math/rand"
	"runtime"
	"slices"
	"strconv"
	"strings"
	"testing"

	"tiltyard/api"
	"tiltyard/frame"
)

// wrongs are lengths that are wrong, some of which two bytes would cut to one that is right.
var wrongs = []int{0, 1025, 1026, 1100, 2048, 1 << 15, 65535, 65536, 65537, 65536 + 1024, 1<<17 + 7}

func random(seed int64, many int) []byte {
	b := make([]byte, many)
	rand.New(rand.NewSource(seed)).Read(b)
	return b
}

// sized are frames of so many bytes each.
func sized(many ...int) [][]byte {
	var frames [][]byte
	for i, n := range many {
		frames = append(frames, random(int64(i), n))
	}
	return frames
}

// known is what the chapter says of frames that are right: each behind its length.
func known(frames ...[]byte) []byte {
	var b []byte
	for _, f := range frames {
		b = append(append(b, byte(len(f)/256), byte(len(f)%256)), f...)
	}
	return b
}

func same(a, b [][]byte) bool { return slices.EqualFunc(a, b, bytes.Equal) }

// holds tells whether a reader lives, and holds so many bytes.
func holds(r *frame.Reader, many int) bool { return r.Held() == many && !r.Dead() }

// isDead tells whether a reader is, and stays so whatever it is fed with.
func isDead(r *frame.Reader) bool {
	for _, b := range [][]byte{nil, {}, {0}, {0, 1, 5}, {0, 0}, make([]byte, 3000)} {
		if l, e := r.Feed(b); len(l) != 0 || e != api.ErrFrame || !r.Dead() || r.Held() != 0 {
			return false
		}
	}
	return true
}

// P5.1

func TestWrap(t *testing.T) {
	for _, c := range []struct {
		frames [][]byte
		want   string
	}{
		{nil, ""},
		{[][]byte{}, ""},
		{[][]byte{{7, 8}, {9}}, "\x00\x02\x07\x08\x00\x01\x09"},
		{[][]byte{{0}}, "\x00\x01\x00"},
		{[][]byte{{0, 0}, {0}, {255}}, "\x00\x02\x00\x00\x00\x01\x00\x00\x01\xff"},
		{[][]byte{{0, 1, 7}}, "\x00\x03\x00\x01\x07"},
		{[][]byte{make([]byte, 255)}, "\x00\xff" + strings.Repeat("\x00", 255)},
		{[][]byte{make([]byte, 256)}, "\x01\x00" + strings.Repeat("\x00", 256)},
		{[][]byte{make([]byte, 1023)}, "\x03\xff" + strings.Repeat("\x00", 1023)},
		{[][]byte{make([]byte, 1024)}, "\x04\x00" + strings.Repeat("\x00", 1024)},
		{[][]byte{make([]byte, 1024), {5}}, "\x04\x00" + strings.Repeat("\x00", 1024) + "\x00\x01\x05"},
	} {
		if b, e := frame.Wrap(c.frames...); e != api.OK || string(b) != c.want {
			t.Errorf("Wrap of %d frames: %v, error %d", len(c.frames), b, e)
		}
	}
	if b, e := frame.Wrap(); e != api.OK || len(b) != 0 {
		t.Errorf("Wrap of nothing: %v, error %d", b, e)
	}
}

func TestWrapOfEachLength(t *testing.T) {
	for many := 1; many <= api.MaxFrame; many++ {
		f := random(int64(many), many)
		if b, e := frame.Wrap(f); e != api.OK || !bytes.Equal(b, known(f)) {
			t.Errorf("Wrap of %d bytes: %d bytes, error %d", many, len(b), e)
		}
	}
}

func TestWrapOfWrongFrames(t *testing.T) {
	for _, many := range wrongs {
		wrong := make([]byte, many)
		for _, frames := range [][][]byte{
			{wrong},
			{wrong, {1}},
			{{1}, wrong},
			{{1}, {2, 3}, wrong, {4}},
			{wrong, wrong},
			{make([]byte, 1024), wrong},
		} {
			if b, e := frame.Wrap(frames...); e != api.ErrFrame || b != nil {
				t.Errorf("Wrap with one of %d bytes: %d bytes, error %d", many, len(b), e)
			}
		}
	}
	if b, e := frame.Wrap(nil); e != api.ErrFrame || b != nil {
		t.Errorf("Wrap of a frame that is nil: %v, error %d", b, e)
	}
	if b, e := frame.Wrap([]byte{1}, nil); e != api.ErrFrame || b != nil {
		t.Errorf("Wrap of a frame and of one that is nil: %v, error %d", b, e)
	}
}

// P5.2

func TestNew(t *testing.T) {
	r := frame.New()
	if r == nil || !holds(r, 0) {
		t.Fatal("a new reader holds something, or is dead")
	}
	for _, b := range [][]byte{nil, {}} {
		if l, e := r.Feed(b); len(l) != 0 || e != api.OK || !holds(r, 0) {
			t.Errorf("Feed of nothing: %v, error %d, %d held", l, e, r.Held())
		}
	}
}

func TestFeed(t *testing.T) {
	long := random(1, 1024)
	type step struct {
		b    string
		want []string
		held int
	}
	for name, steps := range map[string][]step{
		"the example":        {{"\x00\x02\x07", nil, 3}, {"\x08\x00", []string{"\x07\x08"}, 1}, {"\x01\x09", []string{"\x09"}, 0}},
		"byte by byte":       {{"\x00", nil, 1}, {"\x02", nil, 2}, {"\x05", nil, 3}, {"\x06", []string{"\x05\x06"}, 0}, {"\x00", nil, 1}},
		"nothing between":    {{"\x00", nil, 1}, {"", nil, 1}, {"\x01", nil, 2}, {"", nil, 2}, {"\x07", []string{"\x07"}, 0}, {"", nil, 0}},
		"many at once":       {{"\x00\x01a\x00\x02bc\x00\x03def\x00\x04gh", []string{"a", "bc", "def"}, 4}, {"ij", []string{"ghij"}, 0}},
		"the end of another": {{"\x00\x03ab", nil, 4}, {"c\x00\x01d\x00\x01", []string{"abc", "d"}, 2}, {"e", []string{"e"}, 0}},
		"a length in two":    {{"\x00\x01a\x04", []string{"a"}, 1}, {"\x00" + string(long), []string{string(long)}, 0}},
		"the longest":        {{"\x04\x00", nil, 2}, {string(long[:1023]), nil, 1025}, {string(long[1023:]), []string{string(long)}, 0}},
		"256 bytes":          {{"\x01\x00" + string(long[:255]), nil, 257}, {string(long[255:257]), []string{string(long[:256])}, 1}},
		"noughts in a frame": {{"\x00\x03\x00\x00\x00\x00\x01\x00", []string{"\x00\x00\x00", "\x00"}, 0}},
		"lengths in a frame": {{"\x00\x03\x00\x01\x05", []string{"\x00\x01\x05"}, 0}, {"\x00\x02\x05\x00", []string{"\x05\x00"}, 0}},
	} {
		r := frame.New()
		for i, s := range steps {
			var want [][]byte
			for _, w := range s.want {
				want = append(want, []byte(w))
			}
			if l, e := r.Feed([]byte(s.b)); !same(l, want) || e != api.OK || !holds(r, s.held) {
				t.Errorf("%s, step %d: %q, error %d, %d held, dead: %v", name, i, l, e, r.Held(), r.Dead())
			}
		}
	}
}

func TestEachLengthIsRightOrWrong(t *testing.T) {
	body := random(2, 1024)
	for many := range 1 << 16 {
		r := frame.New()
		l, e := r.Feed([]byte{byte(many >> 8), byte(many)})
		if many < 1 || many > 1024 {
			if len(l) != 0 || e != api.ErrFrame || !isDead(r) {
				t.Errorf("%d: %v, error %d, dead: %v", many, l, e, r.Dead())
			}
			continue
		}
		if len(l) != 0 || e != api.OK || !holds(r, 2) {
			t.Errorf("%d: %v, error %d, dead: %v", many, l, e, r.Dead())
		}
		if l, e := r.Feed(body[:many-1]); len(l) != 0 || e != api.OK || !holds(r, 1+many) {
			t.Errorf("%d, all but its last byte: %d frames, error %d, %d held", many, len(l), e, r.Held())
		}
		if l, e := r.Feed(body[many-1 : many]); !same(l, [][]byte{body[:many]}) || e != api.OK || !holds(r, 0) {
			t.Errorf("%d, its last byte: %d frames, error %d, %d held", many, len(l), e, r.Held())
		}
	}
}

func TestOneByteIsNoLength(t *testing.T) {
	for first := range 256 {
		r := frame.New()
		if l, e := r.Feed([]byte{byte(first)}); len(l) != 0 || e != api.OK || !holds(r, 1) {
			t.Errorf("%d: %v, error %d, dead: %v", first, l, e, r.Dead())
		}
		if l, e := r.Feed(nil); len(l) != 0 || e != api.OK || !holds(r, 1) {
			t.Errorf("%d, and nothing behind: %v, error %d, dead: %v", first, l, e, r.Dead())
		}
	}
}

func TestFramesAheadOfAWrongLength(t *testing.T) {
	for _, wrong := range []string{"\x00\x00", "\x04\x01", "\x05\x00", "\xff\xff"} {
		for _, behind := range []string{"", "\x00", "\x00\x01\x07", "\x00\x00", strings.Repeat("\x00\x01\x07", 500)} {
			for ahead := range 4 {
				frames := sized(1, 1024, 3)[:ahead]
				r := frame.New()
				l, e := r.Feed([]byte(string(known(frames...)) + wrong + behind))
				if !same(l, frames) || e != api.ErrFrame || !isDead(r) {
					t.Errorf("%d frames ahead of %q: %d frames, error %d, dead: %v", ahead, wrong, len(l), e, r.Dead())
				}
			}
		}
	}
	l, e := frame.New().Feed([]byte{0, 1, 5, 0, 0})
	if !same(l, [][]byte{{5}}) || e != api.ErrFrame {
		t.Errorf("the example: %v, error %d", l, e)
	}
}

func TestAWrongLengthInTwoPieces(t *testing.T) {
	r := frame.New()
	if l, e := r.Feed([]byte{0, 1, 5, 0}); !same(l, [][]byte{{5}}) || e != api.OK || !holds(r, 1) {
		t.Errorf("%v, error %d, %d held", l, e, r.Held())
	}
	// What was answered before is not answered again.
	if l, e := r.Feed([]byte{0, 0, 1, 6}); len(l) != 0 || e != api.ErrFrame || !isDead(r) {
		t.Errorf("%v, error %d, dead: %v", l, e, r.Dead())
	}
	r = frame.New()
	if l, e := r.Feed([]byte{0, 2, 5}); len(l) != 0 || e != api.OK {
		t.Errorf("%v, error %d", l, e)
	}
	if l, e := r.Feed([]byte{6, 4, 1}); !same(l, [][]byte{{5, 6}}) || e != api.ErrFrame || !isDead(r) {
		t.Errorf("%v, error %d, dead: %v", l, e, r.Dead())
	}
}

func TestNilReader(t *testing.T) {
	var r *frame.Reader
	if !r.Dead() || r.Held() != 0 || !isDead(r) {
		t.Error("a nil reader is not as a dead one")
	}
}

// P5.3

// cut is bytes in pieces, drawn.
func cut(r *rand.Rand, b []byte, most int) [][]byte {
	var pieces [][]byte
	for len(b) > 0 {
		n := min(r.Intn(most+1), len(b))
		pieces = append(pieces, b[:n])
		b = b[n:]
	}
	return pieces
}

// feed is all frames of pieces, and how often there was an error.
func feed(t *testing.T, r *frame.Reader, pieces [][]byte) ([][]byte, int) {
	t.Helper()
	var frames [][]byte
	errors := 0
	for _, p := range pieces {
		was := r.Dead()
		l, e := r.Feed(p)
		if (e == api.ErrFrame) != r.Dead() || e != api.OK && e != api.ErrFrame || was && len(l) != 0 {
			t.Errorf("%d frames, error %d, dead: %v and %v", len(l), e, was, r.Dead())
		}
		if r.Held() < 0 || r.Held() > 1025 {
			t.Errorf("%d bytes are held", r.Held())
		}
		if e != api.OK {
			errors++
		}
		frames = append(frames, l...)
	}
	return frames, errors
}

func TestAllCutsOfAFewBytes(t *testing.T) {
	for _, c := range []struct {
		b      string
		frames [][]byte
		dead   bool
		held   int
	}{
		{"\x00\x02\x07\x08\x00\x01\x09\x00\x03\x00\x00\x01\x00", [][]byte{{7, 8}, {9}, {0, 0, 1}}, false, 1},
		{"\x00\x01\x05\x00\x02\x06\x07\x00\x00\x00\x01\x07", [][]byte{{5}, {6, 7}}, true, 0},
		{"\x00\x01\x04\x04\x01\x00\x01\x07", [][]byte{{4}}, true, 0},
		{"\x04\x00\x00\x00\x00\x00\x00\x00\x00\x00", nil, false, 10},
	} {
		for cuts := range 1 << (len(c.b) - 1) {
			var pieces [][]byte
			from := 0
			for i := range len(c.b) {
				if i == len(c.b)-1 || cuts>>i&1 == 1 {
					pieces = append(pieces, []byte(c.b[from:i+1]))
					from = i + 1
				}
			}
			r := frame.New()
			l, _ := feed(t, r, pieces)
			if !same(l, c.frames) || r.Dead() != c.dead || r.Held() != c.held {
				t.Fatalf("%q in %d pieces: %v, %d held, dead: %v", c.b, len(pieces), l, r.Held(), r.Dead())
			}
		}
	}
}

func TestWhatIsWrappedComesAsItWas(t *testing.T) {
	r := rand.New(rand.NewSource(3))
	for i := range 300 {
		var frames [][]byte
		for range r.Intn(12) {
			frames = append(frames, random(r.Int63(), 1+r.Intn([]int{1, 3, 300, 1024}[r.Intn(4)])))
		}
		b, e := frame.Wrap(frames...)
		if e != api.OK || !bytes.Equal(b, known(frames...)) {
			t.Fatalf("%d: error %d", i, e)
		}
		rest := known(sized(1024)...)[:r.Intn(1026)]
		whole := slices.Concat(b, rest)
		for _, most := range []int{1, 2, 3, 10, 1000, 1025, 1026, 5000} {
			reader := frame.New()
			if l, errors := feed(t, reader, cut(r, whole, most)); !same(l, frames) || errors != 0 || !holds(reader, len(rest)) {
				t.Fatalf("%d, in pieces of at most %d: %d of %d frames, %d of %d bytes held", i, most, len(l), len(frames), reader.Held(), len(rest))
			}
		}
	}
}

func TestAWrongLengthHoweverItIsCut(t *testing.T) {
	r := rand.New(rand.NewSource(4))
	for i := range 200 {
		frames := make([][]byte, r.Intn(6))
		for j := range frames {
			frames[j] = random(r.Int63(), 1+r.Intn(1024))
		}
		wrong := []int{0, 1025 + r.Intn(65536-1025)}[r.Intn(2)]
		b := append(known(frames...), byte(wrong>>8), byte(wrong))
		b = append(b, random(r.Int63(), r.Intn(3000))...)
		for _, most := range []int{1, 2, 3, 100, 2000, 1 << 20} {
			reader := frame.New()
			if l, errors := feed(t, reader, cut(r, b, most)); !same(l, frames) || errors == 0 || !isDead(reader) {
				t.Fatalf("%d, in pieces of at most %d: %d of %d frames, %d errors", i, most, len(l), len(frames), errors)
			}
		}
	}
}

func TestAnyBytesEnd(t *testing.T) {
	r := rand.New(rand.NewSource(5))
	for range 300 {
		b := random(r.Int63(), r.Intn(4000))
		for i := 0; i < len(b); i += 1 + r.Intn(8) {
			b[i] = byte(r.Intn(2)) // so that some lengths are right
		}
		once, pieces := frame.New(), frame.New()
		l, _ := feed(t, once, [][]byte{b})
		m, _ := feed(t, pieces, cut(r, b, 1+r.Intn(40)))
		if !same(l, m) || once.Dead() != pieces.Dead() || once.Held() != pieces.Held() {
			t.Fatalf("%d frames and %d, %d held and %d", len(l), len(m), once.Held(), pieces.Held())
		}
	}
}

func TestManyFramesAtOnce(t *testing.T) {
	const many = 200000
	frames := make([][]byte, many)
	for i := range frames {
		frames[i] = []byte(strconv.Itoa(i))
	}
	b, e := frame.Wrap(frames...)
	r := frame.New()
	if l, f := r.Feed(append(b, 3)); e != api.OK || f != api.OK || !same(l, frames) || !holds(r, 1) {
		t.Errorf("%d of %d frames, errors %d and %d, %d held", len(l), many, e, f, r.Held())
	}
}

// What is answered is not kept, either, though what is held came in one piece with it.
func TestAReaderHoldsLittleMemory(t *testing.T) {
	const many, large = 16, 1 << 22
	stream := append(bytes.Repeat(known(make([]byte, 1024)), large/1026), 0)
	before := inUse()
	var readers []*frame.Reader
	for range many {
		r := frame.New()
		r.Feed(stream)
		readers = append(readers, r)
	}
	if more := inUse() - before; more > large {
		t.Errorf("%d readers hold %d bytes of memory", many, more)
	}
	for _, r := range readers {
		if !holds(r, 1) {
			t.Errorf("%d bytes are held", r.Held())
		}
	}
}

// inUse is how much memory is in use.
func inUse() int64 {
	runtime.GC()
	var m runtime.MemStats
	runtime.ReadMemStats(&m)
	return int64(m.HeapAlloc)
}

// The rules R4 and R6

func TestWrapKeepsItsFrames(t *testing.T) {
	room := []byte{1, 2, 3, 4, 5, 6, 7, 8}
	frames := [][]byte{room[:2], room[2:4], room[:2]}
	b, _ := frame.Wrap(frames...)
	want := slices.Clone(b)
	if !bytes.Equal(room, []byte{1, 2, 3, 4, 5, 6, 7, 8}) || len(frames[0]) != 2 || len(frames[1]) != 2 {
		t.Error("Wrap changed what it was handed")
	}
	clear(room)
	if !bytes.Equal(b, want) {
		t.Error("what Wrap answered changes with what it was handed")
	}
	room[0] = 9
	clear(b)
	if room[0] != 9 {
		t.Error("Wrap answers what it was handed")
	}
}

func TestFeedKeepsItsBytes(t *testing.T) {
	stream := []byte{0, 2, 7, 8, 0, 3, 1, 2, 3, 0, 2, 5}
	was := slices.Clone(stream)
	room := append(make([]byte, 0, 100), stream...)
	r := frame.New()
	l, _ := r.Feed(room)
	if !bytes.Equal(room, was) || !bytes.Equal(room[:100][len(was):], make([]byte, 100-len(was))) {
		t.Error("Feed changed what it was handed")
	}
	clear(room)
	if !same(l, [][]byte{{7, 8}, {1, 2, 3}}) {
		t.Error("what Feed answered changes with what it was handed")
	}
	if m, e := r.Feed([]byte{6}); !same(m, [][]byte{{5, 6}}) || e != api.OK {
		t.Error("what is held changes with what Feed was handed")
	}
}

func TestFeedKeepsNotEvenAPiece(t *testing.T) {
	room := append(make([]byte, 0, 100), 0, 3, 5)
	r := frame.New()
	r.Feed(room)
	clear(room)
	if l, e := r.Feed([]byte{6, 7}); !same(l, [][]byte{{5, 6, 7}}) || e != api.OK {
		t.Errorf("what is held changes with what Feed was handed: %v, error %d", l, e)
	}
	if !bytes.Equal(room[:100], make([]byte, 100)) {
		t.Error("Feed wrote behind what it was handed")
	}
}

// spoil changes all bytes of frames, and those behind them.
func spoil(frames [][]byte) {
	for _, f := range frames {
		f = append(f, 99, 99, 99)
		for i := range f[:cap(f)] {
			f[:cap(f)][i] = 99
		}
	}
}

func TestFramesShareNothing(t *testing.T) {
	stream := known([]byte{1, 2, 3, 4}, []byte{5, 6}, []byte{7}, make([]byte, 40), []byte{8, 9})
	for spoiled := range 4 {
		r := frame.New()
		l, _ := r.Feed(stream[:len(stream)-1])
		want := make([][]byte, len(l))
		for i, f := range l {
			want[i] = slices.Clone(f)
		}
		spoil(l[spoiled : spoiled+1])
		for i := range l {
			if i != spoiled && !bytes.Equal(l[i], want[i]) {
				t.Errorf("frame %d changes with frame %d", i, spoiled)
			}
		}
		if m, e := r.Feed([]byte{9}); !same(m, [][]byte{{8, 9}}) || e != api.OK {
			t.Errorf("what is held changes with frame %d", spoiled)
		}
	}
}

func TestAnswersStayAsTheyAre(t *testing.T) {
	r := frame.New()
	first, _ := r.Feed([]byte{0, 3, 1, 2, 3, 0, 3, 4})
	second, _ := r.Feed([]byte{5, 6, 0, 3, 7})
	third, _ := r.Feed([]byte{8, 9, 0, 0})
	if !same(first, [][]byte{{1, 2, 3}}) || !same(second, [][]byte{{4, 5, 6}}) || !same(third, [][]byte{{7, 8, 9}}) {
		t.Errorf("%v, %v, %v", first, second, third)
	}
	spoil(first)
	if !same(second, [][]byte{{4, 5, 6}}) || !same(third, [][]byte{{7, 8, 9}}) {
		t.Error("two answers share something")
	}
}

func TestReadersShareNothing(t *testing.T) {
	a, b := frame.New(), frame.New()
	a.Feed([]byte{0, 2, 7})
	if !holds(b, 0) {
		t.Error("what one reader is fed with the other one holds")
	}
	b.Feed([]byte{0, 0})
	if l, e := a.Feed([]byte{8}); !same(l, [][]byte{{7, 8}}) || e != api.OK || a.Dead() {
		t.Errorf("%v, error %d, dead: %v", l, e, a.Dead())
	}
	if !isDead(b) || !holds(frame.New(), 0) {
		t.Error("two readers share something")
	}
}
