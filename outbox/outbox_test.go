package outbox_test

import (
	"bytes"
	"math"
	"math/rand"
	"testing"

	"tiltyard/api"
	"tiltyard/frame"
	"tiltyard/outbox"
)

// numbers are some of every sort: below nothing, around bounds, and great.
var numbers = []int{math.MinInt, math.MinInt + 1, -65536, -2, -1, 0, 1, 2, 3, 5, 1026, 1 << 20, math.MaxInt - 1, math.MaxInt}

// has tells what is wrong with a flow that should have so many bytes in flight, and so many requests.
func has(t *testing.T, what string, f *outbox.Flow, flying, asked int) {
	t.Helper()
	if f.Flying() != flying || f.Asked() != asked {
		t.Errorf("%s: %d in flight, %d asked, and not %d and %d", what, f.Flying(), f.Asked(), flying, asked)
	}
}

// sends tells what is wrong with what a flow answers to frames, of which it should be the bytes, or the error.
func sends(t *testing.T, f *outbox.Flow, bytes string, want api.Errno, frames ...[]byte) {
	t.Helper()
	b, e := f.Send(frames...)
	if string(b) != bytes || e != want || e != api.OK && b != nil {
		t.Errorf("%v: %v, %v, and not %v, %v", frames, b, e, []byte(bytes), want)
	}
}

// P25.1

func TestExample(t *testing.T) {
	f := outbox.New(10, 1)
	sends(t, f, "\x00\x03\x01\x02\x03", api.OK, []byte{1, 2, 3})
	sends(t, f, "", api.ErrFull, []byte{4, 5, 6, 7})
	if n := f.Gone(2); n != 3 {
		t.Error("Gone of 2:", n)
	}
	if !f.Ask() || f.Ask() {
		t.Error("Ask: yes, no")
	}
	f.Tick()
	if !f.Ask() {
		t.Error("Ask behind a tick")
	}
}

func TestNew(t *testing.T) {
	for _, out := range numbers {
		for _, rate := range numbers {
			f := outbox.New(out, rate)
			has(t, "new", f, 0, 0)
			sends(t, f, "", api.OK)
			if _, e := f.Send([]byte{7}); (e == api.OK) != (out >= 3) {
				t.Errorf("%d: %v of one byte", out, e)
			}
			if f.Ask() != (rate >= 1) {
				t.Errorf("%d: one request", rate)
			}
			has(t, "new, used", f, map[bool]int{true: 3}[out >= 3], map[bool]int{true: 1}[rate >= 1])
		}
	}
}

func TestSendFrames(t *testing.T) {
	f := outbox.New(2000, 0)
	sends(t, f, "\x00\x02\x07\x08\x00\x01\x09", api.OK, []byte{7, 8}, []byte{9})
	has(t, "two frames", f, 7, 0)
	sends(t, f, "", api.OK)
	sends(t, f, "", api.OK, [][]byte{}...)
	has(t, "no frames", f, 7, 0)
	long := make([]byte, api.MaxFrame)
	sends(t, f, "\x04\x00"+string(long), api.OK, long)
	has(t, "the longest frame", f, 7+1026, 0)
}

// What can't be wrapped is that error, be there room or none, and wherever it stands.
func TestSendWrong(t *testing.T) {
	for _, out := range []int{-1, 0, 2, 3, 5000} {
		f := outbox.New(out, 1)
		sends(t, f, "", api.ErrFrame, nil)
		sends(t, f, "", api.ErrFrame, []byte{})
		sends(t, f, "", api.ErrFrame, make([]byte, api.MaxFrame+1))
		sends(t, f, "", api.ErrFrame, []byte{1}, nil)
		sends(t, f, "", api.ErrFrame, make([]byte, 1000), []byte{})
		has(t, "wrong frames", f, 0, 0)
	}
}

// Just as many as may be in flight may, with the two bytes of each frame's length among them.
func TestSendFull(t *testing.T) {
	f := outbox.New(10, 0)
	sends(t, f, "", api.ErrFull, make([]byte, 9))
	sends(t, f, "", api.ErrFull, make([]byte, 4), make([]byte, 3))
	has(t, "too many", f, 0, 0)
	sends(t, f, "\x00\x04\x00\x00\x00\x00\x00\x02\x00\x00", api.OK, make([]byte, 4), make([]byte, 2))
	has(t, "all", f, 10, 0)
	sends(t, f, "", api.ErrFull, []byte{1})
	sends(t, f, "", api.OK)
	f.Gone(2)
	sends(t, f, "", api.ErrFull, []byte{1})
	f.Gone(1)
	sends(t, f, "\x00\x01\x01", api.OK, []byte{1})
	has(t, "all once more", f, 10, 0)
}

// Where as many bytes may be in flight as a number can tell, their sum with more is none.
func TestSendMost(t *testing.T) {
	f := outbox.New(math.MaxInt, math.MaxInt)
	for range 3 {
		sends(t, f, "\x00\x01\x01", api.OK, []byte{1})
	}
	has(t, "the most", f, 9, 0)
}

func TestGone(t *testing.T) {
	for _, n := range numbers {
		for _, first := range []int{0, 1, 1024} {
			f := outbox.New(5000, 0)
			had := 0
			if first > 0 {
				f.Send(make([]byte, first))
				had = first + 2
			}
			want := had - min(max(n, 0), had)
			if left := f.Gone(n); left != want || f.Flying() != want {
				t.Errorf("of %d are gone %d: %d, %d in flight", had, n, left, f.Flying())
			}
		}
	}
}

// P25.2

func TestAsk(t *testing.T) {
	for _, rate := range []int{0, 1, 2, 20} {
		f := outbox.New(0, rate)
		for range 3 {
			for n := range rate {
				if !f.Ask() || f.Asked() != n+1 {
					t.Errorf("%d: request %d", rate, n+1)
				}
			}
			for range 3 {
				if f.Ask() {
					t.Errorf("%d: one too many", rate)
				}
				has(t, "too many", f, 0, rate)
			}
			f.Tick()
			has(t, "a tick", f, 0, 0)
		}
	}
}

// Bytes and requests do not count for one another.
func TestApart(t *testing.T) {
	f := outbox.New(3, 2)
	f.Ask()
	sends(t, f, "\x00\x01\x09", api.OK, []byte{9})
	has(t, "one of each", f, 3, 1)
	f.Tick()
	has(t, "a tick", f, 3, 0)
	sends(t, f, "", api.ErrFull, []byte{9})
	f.Ask()
	f.Gone(100)
	has(t, "all are gone", f, 0, 1)
	g := outbox.New(3, 2)
	has(t, "another flow", g, 0, 0)
}

// P25.3, and the rules: beside plain numbers a flow answers the same at each step, and shares no memory.
func TestByChance(t *testing.T) {
	for seed := range int64(60) {
		r := rand.New(rand.NewSource(seed))
		out, rate := r.Intn(40)-3, r.Intn(6)-1
		f, flying, asked := outbox.New(out, rate), 0, 0
		for range 400 {
			switch r.Intn(5) {
			case 0, 1:
				frames := make([][]byte, r.Intn(4))
				for i := range frames {
					frames[i] = make([]byte, r.Intn(6))
					r.Read(frames[i])
				}
				b, e := f.Send(frames...)
				want, wrong := frame.Wrap(frames...)
				if wrong == api.OK && flying+len(want) > max(out, 0) {
					want, wrong = nil, api.ErrFull
				}
				flying += len(want)
				if !bytes.Equal(b, want) || e != wrong {
					t.Fatalf("seed %d: %v: %v, %v, and not %v, %v", seed, frames, b, e, want, wrong)
				}
			case 2:
				n := r.Intn(20) - 4
				flying = max(flying-max(n, 0), 0)
				if f.Gone(n) != flying {
					t.Fatalf("seed %d: gone", seed)
				}
			case 3:
				may := asked < rate
				if may {
					asked++
				}
				if f.Ask() != may {
					t.Fatalf("seed %d: ask", seed)
				}
			default:
				if r.Intn(3) == 0 {
					asked = 0
					f.Tick()
				}
			}
			if f.Flying() != flying || f.Asked() != asked || flying > max(out, 0) {
				t.Fatalf("seed %d: %d and %d, and not %d and %d", seed, f.Flying(), f.Asked(), flying, asked)
			}
		}
	}
}

func TestMemory(t *testing.T) {
	f := outbox.New(100, 0)
	in := make([]byte, 3, 64)
	copy(in, "abc")
	a, _ := f.Send(in, in)
	b, _ := f.Send(in, in)
	if string(in[:cap(in)][:5]) != "abc\x00\x00" {
		t.Error("what is handed in is changed")
	}
	in[0] = 'x'
	a[4] = 'y'
	a = append(a, 'z')
	if string(b) != "\x00\x03abc\x00\x03abc" || string(a) != "\x00\x03aby\x00\x03abcz" {
		t.Errorf("answers share memory: %q %q", a, b)
	}
}
